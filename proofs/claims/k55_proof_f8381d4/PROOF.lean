import PyProof.Rows.All
import Wide.All
import OpenK.AllK
import Wide.FinOn
import PyProof.Rows.NestShow
import HandS.ForMost
import HandS.ForExc
import HandS.Ends
import HandS.ExcInit
import HandS.ExcIs
import HandS.IsInst
import HandS.ExcField
import HandS.MakeKw
import HandS.MakeKwOnly
import KE.KExcInit
import KE.KExcIs
import KE.KOpsOwn
import HandS.Wide
import HandS.Flow
import HandS.Star
import HandS.ClsMeth
import HandS.Deep
import HandS.OwnEq
import HandS.TupAny
import HandS.More
import HandS.WrittenGet
import KE.GoesMore
import KE.GoesEnum
import KE.KRevSl
import HandS.SetTxt0
import HandS.Set
import HandS.SetBool
import PyProof.StrOps2
import HandS.TupSets
import HandS.GenBody
import HandS.GenYield
import HandS.GenCall
import HandS.GenList
import KE.GoesRaise
import KE.GoesComp
import HandS.Defaults
import PySem.Challenge.RW_takendown_k55_whole_rows_out_of_stocks
set_option Elab.async false
set_option linter.all false
set_option maxRecDepth 100000
set_option maxHeartbeats 4000000
/-! E1 -/
/-! ### own error classes with an __init__ of their own, over any built-in base; made by position and by keywords -/
namespace PySem
namespace LwX
open PySem.HandSPX Builtin Builtin.ObjectAttr
section
variable {M : Model} {A : Around} {E : Value → Shared → Prop} {h : Heap} {g : Array GenState} {d : Drawn} {t : Nat} {os : OsState}
variable {nm q : Str} {C N : Addr} {bs bm bmB : List Value} {hdct : Bool} {sn : List Str} {sub : List Value} {ab : Bool} {col : Option Bool} {dd : Option Addr} {k0 k1 k2 k3 k5 : Option Value} {B newId initId : String}
theorem check_new_kw (F : ExcBaseFacts B newId initId bmB) (hT : ∀ X : String, bm.contains (.type X) = bmB.contains (.type X)) {rest : List Value} {kw : List (Str × Value)} {Q : Unit → Shared → Prop}
    (hC : h.get? C = some (excClassObj nm q C N bs bm hdct sn sub ab col dd k0 k1 k2 k3 k5 newId)) (hq : Q () ⟨h, g, d, t, os⟩) : wpAny M A (checkBuiltinCall newId ⟨.ref C :: rest, kw⟩) Q E ⟨h, g, d, t, os⟩ := by
  have hcont : (Value.ref C :: bm).contains (.type B) = true := by rw [List.contains_cons, hT, F.hasB, Bool.or_true]
  have hstar := F.noStar
  simp only [checkBuiltinCall, F.newKind, F.newSplit, F.newRow]
  repeat (first | refine wpAny_loadPart_at hC ?_ | (refine wpAny_isSubtype_exc hC ?_; rw [hcont]) | refine wpAny_staticBase_exc hC ?_ | refine wpAny_madeBy_exc hC ?_ | simp only [bne_self_eq_false, Bool.false_eq_true, if_false] | wp_step)
  exact hq
end
section
variable {prog : Program} {w : World} {A : Around} {E : Value → Shared → Prop} {R : Result → Shared → Prop} {h : Heap} {g : Array GenState} {d : Drawn} {t : Nat} {os : OsState}
variable {nm q : Str} {C N : Addr} {bs bm bmB : List Value} {hdct : Bool} {sn : List Str} {sub : List Value} {ab : Bool} {col : Option Bool} {dd : Option Addr} {k0 k1 k2 k3 k5 : Option Value} {B newId initId : String}
theorem new_kw (F : ExcBaseFacts B newId initId bmB) (hT : ∀ X : String, bm.contains (.type X) = bmB.contains (.type X)) {rest : List Value} {kw : List (Str × Value)}
    (hC : h.get? C = some (excClassObj nm q C N bs bm hdct sn sub ab col dd k0 k1 k2 k3 k5 newId))
    (hq : R (.ok (.ret (.ref (h.objs.size + 1)))) ⟨(h.push { cls := .type "tuple", data := .seq rest.toArray }).push
      { cls := .ref C, data := .fields #[.ref h.objs.size, .none, .none, .none, .bool false, .none] }, g, d, t, os⟩) (hrest : rest.length ≤ sizeLine) :
    codeAny (model prog w) A (.builtin newId ⟨.ref C :: rest, kw⟩) R ⟨h, g, d, t, os⟩ := by
  have hends := F.ends
  have hcB : (Value.ref C :: bm).contains (.type B) = true := by rw [List.contains_cons, hT, F.hasB, Bool.or_true]
  have hcA : (Value.ref C :: bm).contains (.type "AttributeError") = false := by rw [List.contains_cons, hT, F.noAttr]; rfl
  have hcN : (Value.ref C :: bm).contains (.type "NameError") = false := by rw [List.contains_cons, hT, F.noName]; rfl
  refine codeAny_builtinAt F.entry ?_
  unfold Builtin.«BaseException.__new__»
  refine wpAt_bind ?_
  show wpAt _ _ _ (stack >>= _) _ _ _
  refine wpAt_bind (wpAt_stack fun p below => wpAt_of_wpAny ?_)
  wp_walk
  refine wpAt_of_wpAny ?_
  rw [F.owner]
  repeat (first | with_reducible refine wpAny_madeHere_exc F.canon hC ?_ | with_reducible refine wpAny_loadPart_at hC ?_ | (with_reducible refine wpAny_isSubtype_exc hC ?_; first | rw [hcB] | rw [hcA] | rw [hcN]) | wp_step)
  show R _ _
  rw [Heap.size_push]
  exact hq
theorem type_call_kw (F : ExcBaseFacts B newId initId bmB) (hT : ∀ X : String, bm.contains (.type X) = bmB.contains (.type X)) {rest : List Value} {kw : List (Str × Value)} {fI : Addr} {Q : Fin → Shared → Prop}
    (hC : h.get? C = some (excClassObj nm q C N bs bm hdct sn sub ab col dd k0 k1 k2 k3 k5 newId))
    (hi : W.Looks (model prog w) h (typeLookup (.ref C) "__init__") (some (.ref fI))) (hb : ∀ self, W.Looks (model prog w) h (bindSpecial (.ref fI) self) (.ref fI, [self])) (hrest : rest.length ≤ sizeLine)
    (hq : codeAny (model prog w) A (.call (.ref fI) ⟨.ref (h.objs.size + 1) :: rest, kw⟩)
      (fun r s' => match r with | .ok (.ret v) => v = .none ∧ Q (.done (.ret (.ref (h.objs.size + 1)))) s' | .ok _ => False | .error e => E e s')
      ⟨(h.push (W.kdv_tup rest)).push (excO C h.objs.size), g, d, t, os⟩) :
    wpAny (model prog w) A (Builtin.«type.__call__» ⟨.ref C :: rest, kw⟩) Q E ⟨h, g, d, t, os⟩ := by
  repeat (first | with_reducible refine wpAny_loadPart_at hC ?_ | with_reducible refine wpAny_madeBy_exc hC ?_ | wp_step)
  refine codeAny_call_builtin_code (Code.quiet_builtin _ F.quiet) (check_new_kw F hT hC ?_)
  refine new_kw F hT hC ?_ hrest
  show wpAny _ _ _ _ _ _
  have k : ∀ b o, h.get? b = some o → ((h.push (W.kdv_tup rest)).push (excO C h.objs.size)).get? b = some o := fun b o e => Heap.get?_push_of_some _ (Heap.get?_push_of_some _ e)
  have hC₁ := k _ _ hC
  have hget : ((h.push (W.kdv_tup rest)).push (excO C h.objs.size)).get? (h.objs.size + 1) = some (excO C h.objs.size) := by heap_get
  have hcC : (Value.ref C :: bm).contains (.ref C) = true := by simp
  have i1 := hi.keeps k
  have b1 := (hb (.ref (h.objs.size + 1))).keeps k
  unfold isInstance
  repeat (first | with_reducible refine wpAny_loadPart_at hget ?_ | (with_reducible refine wpAny_isSubtype_exc hC₁ ?_; rw [hcC]) | wp_step)
  show wpAny _ _ (typeLookup (.ref C) _) _ _ _
  refine i1.at ?_
  refine wpAny_holding (wpAny_bind (b1.at ?_))
  refine wpAny_bind (wpAny_call (codeAny_mono hq fun r s' z => ?_))
  rcases r with e | (v | _ | _ | _) <;> first | exact z | exact z.elim | skip
  obtain ⟨rfl, z⟩ := z
  first
    | exact wpAny_pure (wpAny_pure z)
    | (wp_walk; exact z)
theorem check_type_call_kw {M : Model} {rest : List Value} {kw : List (Str × Value)} {Q : Unit → Shared → Prop} (hC : h.get? C = some (excClassObj nm q C N bs bm hdct sn sub ab col dd k0 k1 k2 k3 k5 newId)) (hq : Q () ⟨h, g, d, t, os⟩) :
    wpAny M A (checkBuiltinCall "type.__call__" ⟨.ref C :: rest, kw⟩) Q E ⟨h, g, d, t, os⟩ := by
  have f3 := tc_sub
  have hT : (⟨h, g, d, t, os⟩ : Shared).TypeIs (.ref C) "type" := ⟨_, hC, rfl⟩
  simp only [checkBuiltinCall, tc_kind, tc_split]
  repeat (any_goals (first | assumption | with_reducible refine wpAny_loadPart_at hC ?_ | with_reducible refine wpAny_onRaise ?_ | with_reducible refine wpAny_map ?_ | wp_step))
theorem call_kw (F : ExcBaseFacts B newId initId bmB) (hT : ∀ X : String, bm.contains (.type X) = bmB.contains (.type X)) {rest : List Value} {kw : List (Str × Value)} {fI : Addr}
    (hC : h.get? C = some (excClassObj nm q C N bs bm hdct sn sub ab col dd k0 k1 k2 k3 k5 newId))
    (hi : W.Looks (model prog w) h (typeLookup (.ref C) "__init__") (some (.ref fI))) (hb : ∀ self, W.Looks (model prog w) h (bindSpecial (.ref fI) self) (.ref fI, [self])) (hrest : rest.length ≤ sizeLine)
    (hq : codeAny (model prog w) (A.under (.builtin "type.__call__" ⟨.ref C :: rest, kw⟩)) (.call (.ref fI) ⟨.ref (h.objs.size + 1) :: rest, kw⟩) (W.InitBack (h.objs.size + 1) R)
      ⟨(h.push (W.kdv_tup rest)).push (excO C h.objs.size), g, d, t, os⟩) :
    codeAny (model prog w) A (.call (.ref C) ⟨rest, kw⟩) R ⟨h, g, d, t, os⟩ := by
  have f1 := tc_lookup
  have f2 := tc_bind (.ref C)
  have hTy : (⟨h, g, d, t, os⟩ : Shared).TypeIs (.ref C) "type" := ⟨_, hC, rfl⟩
  refine codeAny_of_tree ?_
  show wpAny _ _ (callAny (.ref C) _) _ _ _
  repeat (any_goals (first | assumption | with_reducible refine wpAny_loadPart_at hC ?_ | wp_step))
  refine ⟨rfl, ?_⟩
  refine codeAny_call_builtin_at (Code.quiet_builtin _ (by decide +kernel)) entry_typeCall (check_type_call_kw hC (type_call_kw F hT hC hi hb hrest ?_))
  refine codeAny_mono hq fun r s' z => ?_
  rcases r with e | (v | _ | _ | _) <;> exact z
end
section
variable {prog : Program} {w : World} {A : Around} {E : Value → Shared → Prop} {R : Result → Shared → Prop} {hp : Heap} {g : Array GenState} {d : Drawn} {t : Nat} {os : OsState} {B : String} {bmB : List Value}
/-- self.name = v, the first field -/
theorem osa_first {K : W.Frag} {name : Str} {tk : Tok} {v : Value} {x C : Addr} {fv : Array Value} {cd : ClassData} (SB : StoreFacts B bmB "object.__setattr__" "object")
    (X : K.In hp) (hx : hp.get? x = some { cls := .ref C, data := .fields fv }) (hcd : W.clsIn K C = some cd) (hm : W.excTail bmB cd.mro = true) (hh : cd.hasDict = true) (ha : W.findIn K (.ref C) name = some none)
    (hq : ∀ h' tk' dx, (∀ b o, b ≠ x → hp.get? b = some o → h'.get? b = some o) → hp.objs.size ≤ dx → dx ≠ x → h'.get? x = some { cls := .ref C, dict := some dx, data := .fields fv } →
      h'.Ns1 dx (fun y => if y = name then some v else none) → R (.ok (.ret .none)) ⟨h', g, d, tk', os⟩) :
    codeAny (model prog w) A (.call (.builtin "object.__setattr__") ⟨[.ref x, .str name tk, v], []⟩) R ⟨hp, g, d, t, os⟩ := by
  have I : W.InstAt hp x { cls := .ref C, data := .fields fv } C none := ⟨hx, rfl, rfl, trivial⟩
  have SF := F.store_object
  have hob : cd.mro.contains (.type "object") = true := (W.excTail_contains "object" _ hm).trans SB.hasOwner
  have ne : cd.mro.isEmpty = false := by
    cases e : cd.mro with
    | nil =>
      rw [e] at hob
      cases hob
    | cons _ _ => rfl
  have hxs : x ≠ hp.objs.size := Nat.ne_of_lt (Heap.lt_size hx)
  have sub : W.Looks (model prog w) hp (isInstance (.ref x) (.type "object")) true := I.type.andThen (W.looks_mroIn X (by unfold W.mroIn; rw [hcd, Option.bind_some, if_neg (by rw [ne]; decide), hob]))
  refine codeAny_call_builtin SF.slot.plain SF.entry (@W.check_slot (model prog w) _ _ ⟨hp, g, d, t, os⟩ "object.__setattr__" "object" "__setattr__" (.ref x) [.str name tk, v] [] _ SF.kind SF.split sub (SF.args (.ref x) (.str name tk) v) ?_)
  have hmr : W.Looks (model prog w) hp (mroOf (.ref C)) cd.mro := (W.looks_clsIn X hcd).andThen .now
  have L3 : W.Looks (model prog w) hp (storeTaker? none) none := .now
  have hcls : W.Looks (model prog w) hp (classData C) cd := W.looks_clsIn X hcd
  rw [W.osa_eq, refuse_eq]
  refine wpAny_bind (wpAny_bind (I.type.at (wpAny_bind (hmr.at ?_))))
  rw [W.excTail_pass _ (SB.passes _) _ hm]
  refine wpAny_pure (wpAny_bind (I.type.at (wpAny_bind ((W.looks_findIn X ha).at (wpAny_bind (L3.at ?_))))))
  show wpAny _ _ (storeInOwnDict (.ref x) (.ref C) (.str name tk) name v false) _ _ _
  obtain ⟨nm, bs, mro, ns, qn, hd, sn, sb, ab, col, del⟩ := cd
  dsimp only at hh
  subst hh
  unfold storeInOwnDict ownDictForStores
  repeat (first | with_reducible refine store_in_new ?_ ?_ | with_reducible refine wpAny_loadPart_at hx ?_ | with_reducible refine hcls.at ?_ | wp_step)
  · exact ⟨_, #[], _, (Heap.get?_update_ne _ _ _ _ hxs.symm).trans (Heap.get?_push_at rfl rfl), rfl, fun e he => absurd he (by simp), fun _ => rfl⟩
  · intro h' tk' hn' hs
    have hx₁ : (hp.push { cls := .type "dict", data := .dict #[] }).get? x = some { cls := .ref C, data := .fields fv } := Heap.get?_push_of_some _ hx
    refine hq h' tk' hp.objs.size (fun b o hb ho => ?_) (Nat.le_refl _) hxs.symm ?_ hn'
    · exact (hs.2 b (Nat.ne_of_lt (Heap.lt_size ho))).trans ((Heap.get?_update_ne _ _ _ _ hb).trans (Heap.get?_push_of_some _ ho))
    · exact (hs.2 x hxs).trans (Heap.get?_update_self _ hx₁ rfl)
/-- a further field -/
theorem osa_further {K : W.Frag} {name : Str} {tk : Tok} {v : Value} {x C dx : Addr} {fv : Array Value} {cd : ClassData} {m0 : Str → Option Value} {nl : List Str} (SB : StoreFacts B bmB "object.__setattr__" "object")
    (X : K.In hp) (hx : hp.get? x = some { cls := .ref C, dict := some dx, data := .fields fv }) (hns : hp.Ns1 dx m0) (hw : Within m0 nl) (hz : nl.length ≤ 1000) (hcd : W.clsIn K C = some cd) (hm : W.excTail bmB cd.mro = true) (hh : cd.hasDict = true)
    (ha : W.findIn K (.ref C) name = some none)
    (hq : ∀ h' tk', (∀ b o, b ≠ dx → hp.get? b = some o → h'.get? b = some o) → h'.Ns1 dx (fun y => if y = name then some v else m0 y) → R (.ok (.ret .none)) ⟨h', g, d, tk', os⟩) :
    codeAny (model prog w) A (.call (.builtin "object.__setattr__") ⟨[.ref x, .str name tk, v], []⟩) R ⟨hp, g, d, t, os⟩ := by
  obtain ⟨oD, esD, epD, hoD, hdD, _⟩ := hns.count hw
  have I : W.InstAt hp x { cls := .ref C, dict := some dx, data := .fields fv } C (some oD) := ⟨hx, rfl, rfl, hoD⟩
  have SF := F.store_object
  have hob : cd.mro.contains (.type "object") = true := (W.excTail_contains "object" _ hm).trans SB.hasOwner
  have ne : cd.mro.isEmpty = false := by
    cases e : cd.mro with
    | nil =>
      rw [e] at hob
      cases hob
    | cons _ _ => rfl
  have sub : W.Looks (model prog w) hp (isInstance (.ref x) (.type "object")) true := I.type.andThen (W.looks_mroIn X (by unfold W.mroIn; rw [hcd, Option.bind_some, if_neg (by rw [ne]; decide), hob]))
  refine codeAny_call_builtin SF.slot.plain SF.entry (@W.check_slot (model prog w) _ _ ⟨hp, g, d, t, os⟩ "object.__setattr__" "object" "__setattr__" (.ref x) [.str name tk, v] [] _ SF.kind SF.split sub (SF.args (.ref x) (.str name tk) v) ?_)
  have hmr : W.Looks (model prog w) hp (mroOf (.ref C)) cd.mro := (W.looks_clsIn X hcd).andThen .now
  have L3 : W.Looks (model prog w) hp (storeTaker? none) none := .now
  have hcls : W.Looks (model prog w) hp (classData C) cd := W.looks_clsIn X hcd
  rw [W.osa_eq, refuse_eq]
  refine wpAny_bind (wpAny_bind (I.type.at (wpAny_bind (hmr.at ?_))))
  rw [W.excTail_pass _ (SB.passes _) _ hm]
  refine wpAny_pure (wpAny_bind (I.type.at (wpAny_bind ((W.looks_findIn X ha).at (wpAny_bind (L3.at ?_))))))
  show wpAny _ _ (storeInOwnDict (.ref x) (.ref C) (.str name tk) name v false) _ _ _
  obtain ⟨nm, bs, mro, ns, qn, hd, sn, sb, ab, col, del⟩ := cd
  dsimp only at hh
  subst hh
  unfold storeInOwnDict ownDictForStores
  repeat (first | with_reducible refine PySem.OEX.store_in_old hns hw hz ?_ | with_reducible refine wpAny_loadPart_at hx ?_ | with_reducible refine hcls.at ?_ | wp_step)
  intro h' tk' hn' hs
  exact hq h' tk' (fun b o hb ho => (hs.2 b hb).trans ho) hn'
end
end LwX
end PySem

/-! E2 -/
/-! ### the same over the layer -/
namespace L2
open PySem PySem.Spec PyProof.Rows
/-- what the written part says of an own error class at C whose __init__ is the def at fI -/
structure OexG (K : PySem.W.Frag) (C fI : Addr) : Prop where
  base : ∃ (B newId initId : String) (bmB : List Value), ExcBaseFacts B newId initId bmB ∧ StoreFacts B bmB "object.__setattr__" "object" ∧
    ∃ nm q N bs bm sn sub ab col dd k0 k1 k2 k3 k5, K.lookup C = some (excClassObj nm q C N bs bm true sn sub ab col dd k0 k1 k2 k3 k5 newId) ∧ PySem.W.excTail bmB bm = true
  sa : PySem.W.findIn K (.ref C) "__setattr__" = some (some (.builtin "object.__setattr__"))
  ga : PySem.W.findIn K (.ref C) "__getattribute__" = some (some (.builtin "BaseException.__getattribute__"))
  gg : PySem.W.findIn K (.ref C) "__getattr__" = some none
  exC : PySem.W.subIn K (.ref C) (.type "BaseException") = some true
  tyC : PySem.W.typeIn K (.ref C) = some (.type "type")
  kC : PySem.W.keepIn K (.ref C) = true
  hdC : PySem.W.hasDictIn K C = true
  iC : PySem.W.findIn K (.ref C) "__init__" = some (some (.ref fI))
  tI : PySem.W.typeIn K (.ref fI) = some (.type "function")
  ha : PySem.W.findIn K (.ref C) "__class__" = some (some (.builtin "object.__class__"))
  hn : PySem.W.specialIn K (.builtin "object.__class__") "__get__" = some (some (.builtin "getset_descriptor.__get__"))
  ht : PySem.W.takesIn K (.builtin "object.__class__") = some true
  hm : PySem.W.mroIn K C (.type "object") = some true
section
variable {X : Cx} {pins : List (Addr × Obj)} {σ : St} {H : Hp} {s : Shared} {a C fI dx : Addr} {f : Str} {y : V} {u : Value} {fs : List (Str × V)} {Q : Unit → Shared → Prop} {E : Value → Shared → Prop} {A : Around}
theorem ost_first (T : OexG X.K C fI) (I : Inv X pins σ H s) (e : H a = some (exo a C none)) (hno : PySem.W.findIn X.K (.ref C) f = some none) (ry : RelV y u)
    (h : ∀ dx s', H dx = none → dx ≠ a → Inv X pins σ (upd (upd H dx (exd dx [(f, y)])) a (exo a C (some dx))) s' → Q () s') : wpAny (model X.prog X.w) A (setAttr (.ref a) f u) Q E s := by
  obtain ⟨B, newId, initId, bmB, FB, SB, nm, q, N, bs, bm, sn, sub, ab, col, dd, k0, k1, k2, k3, k5, hC, hbm⟩ := T.base
  have hcl : PySem.W.clsIn X.K C = some { name := nm, bases := bs, mro := .ref C :: bm, ns := N, qualname := q, hasDict := true, slotNames := sn, subclasses := sub, abstract := ab, collection := col, hasDel := false } := by unfold PySem.W.clsIn; rw [hC] <;> rfl
  obtain ⟨t1, ho⟩ := exo_at I.hok e
  obtain ⟨hp, g, d, t, os⟩ := s
  refine PySem.W.set_plain I.kIn (ox := { cls := .ref C, dict := none, data := .fields #[.ref t1, .none, .none, .none, .bool false, .none] }) (od := none) ⟨ho, rfl, rfl, trivial⟩ T.sa ?_
  refine PySem.LwX.osa_first SB I.kIn ho hcl (show PySem.W.excTail bmB (.ref C :: bm) = true from hbm) rfl hno (fun h' tk' dx k dn dne hx hn => ?_)
  have hnd : H dx = none := I.hok.fresh dn
  have nd : ∀ {b : Addr} {o : Obj}, hp.get? b = some o → b ≠ dx := fun {b o} q => Nat.ne_of_lt (Nat.lt_of_lt_of_le (Heap.lt_size q) dn)
  have na : ∀ {b : Addr}, H b = none → b ≠ a := fun {b} n z => by
    rw [z, e] at n
    cases n
  have Un1 : Un X.fs [] H (upd (upd H dx (exd dx [(f, y)])) a (exo a C (some dx))) hp h' := {
    keep := fun b o q n _ _ => k b o (na n) q
    slot := fun b o q n _ _ => ⟨o.slots, k b o (na n) q⟩
    free := fun b o q n _ => by rw [upd_ne (na n), upd_ne (nd q)]; exact n
    there := fun b o q _ => by
      by_cases hb : b = a
      · exact ⟨_, by rw [hb]; exact hx⟩
      · exact ⟨o, k b o hb q⟩
    tups := fun b xs q => by rw [upd_ne (at_ne e q exo_tup), upd_ne (ne_of_none q hnd)]; exact q
    frzs := fun b o v q => by rw [upd_ne (at_ne e q exo_frz), upd_ne (ne_of_none q hnd)]; exact q
    tbls := fun b ps q => ⟨#[], by rw [upd_ne (at_ne e q exo_tbl), upd_ne (ne_of_none q hnd), q]; simp⟩ }
  refine h dx _ hnd dne (I.un (t' := tk') Un1 fun b o q => ?_)
  by_cases hb : b = a
  · subst hb
    rw [upd_same] at q
    cases q
    exact exo_ok hx
  · rw [upd_ne hb] at q
    by_cases hd : b = dx
    · subst hd
      rw [upd_same] at q
      cases q
      exact exd_ok hn (relO_put (fs := []) ry fun g => True.intro)
    · rw [upd_ne hd] at q
      exact (I.hok b o q).stay (fun c v hc z => k c v (by
          rcases hc with hc | hc
          · rw [hc]
            exact hb
          · exact at_ne e hc exo_own) z)
        (fun c hc => by rw [upd_ne (at_ne e hc exo_own), upd_ne (ne_of_none hc hnd)]; exact hc) (fun c xs hc => by rw [upd_ne (at_ne e hc exo_tup), upd_ne (ne_of_none hc hnd)]; exact hc)
theorem ost_further (T : OexG X.K C fI) (I : Inv X pins σ H s) (e : H a = some (exo a C (some dx))) (ed : H dx = some (exd dx fs)) (hl : fs.length ≤ 900) (hno : PySem.W.findIn X.K (.ref C) f = some none) (ry : RelV y u)
    (h : ∀ s', Inv X pins σ (upd H dx (exd dx ((f, y) :: fs))) s' → Q () s') : wpAny (model X.prog X.w) A (setAttr (.ref a) f u) Q E s := by
  obtain ⟨B, newId, initId, bmB, FB, SB, nm, q, N, bs, bm, sn, sub, ab, col, dd, k0, k1, k2, k3, k5, hC, hbm⟩ := T.base
  have hcl : PySem.W.clsIn X.K C = some { name := nm, bases := bs, mro := .ref C :: bm, ns := N, qualname := q, hasDict := true, slotNames := sn, subclasses := sub, abstract := ab, collection := col, hasDel := false } := by unfold PySem.W.clsIn; rw [hC] <;> rfl
  obtain ⟨t1, ho⟩ := exo_at I.hok e
  obtain ⟨mA, hns, rel⟩ := exd_at I.hok ed
  have hw := within_of rel
  obtain ⟨hp, g, d, t, os⟩ := s
  obtain ⟨oD, _, _, hoD, _, _⟩ := hns.count hw
  refine PySem.W.set_plain I.kIn (ox := { cls := .ref C, dict := some dx, data := .fields #[.ref t1, .none, .none, .none, .bool false, .none] }) (od := some oD) ⟨ho, rfl, rfl, hoD⟩ T.sa ?_
  refine PySem.LwX.osa_further SB I.kIn ho hns hw (by rw [List.length_map]; omega) hcl (show PySem.W.excTail bmB (.ref C :: bm) = true from hbm) rfl hno (fun h' tk' k hn => ?_)
  have hd : ∃ o, h'.get? dx = some o := by
    obtain ⟨o, _, _, e', _⟩ := hn
    exact ⟨o, e'⟩
  exact h _ (I.write (t' := tk') (x := dx) (e := dx) (o := exd dx ((f, y) :: fs)) (by rw [ed]; exact True.intro) (.inl rfl) k hd (exd_ok hn (relO_put ry rel)))
end
/-- self.f = e -/
def tOstG (K : PySem.W.Frag) (f : Str) (to te : TE) : TS := fun D σ H => te σ H fun y H1 => to σ H1 fun x H2 => ∃ a C fI : Addr, x = .ref a ∧ OexG K C fI ∧ PySem.W.findIn K (.ref C) f = some none ∧
  ((H2 a = some (exo a C none) ∧ ∀ dx, H2 dx = none → dx ≠ a → D.nx σ (upd (upd H2 dx (exd dx [(f, y)])) a (exo a C (some dx)))) ∨
    ∃ (dx : Addr) (fs : List (Str × V)), H2 a = some (exo a C (some dx)) ∧ H2 dx = some (exd dx fs) ∧ fs.length ≤ 900 ∧ D.nx σ (upd H2 dx (exd dx ((f, y) :: fs))))
/-- C(e, ..), C(k = e, ..): a new error, its __init__ keeping sp -/
def tMkG (C fI : Addr) (K : PySem.W.Frag) (sp : Sp) (ta : TA) : TE := fun σ H Q => ta σ H fun vs H1 => vs.length ≤ 1000 ∧ ∀ a, H1 a = none → sp (.ref a :: vs) (upd H1 a (exo a C none)) (fun v H2 => v = .non ∧ Q (.ref a) H2) (fun _ _ _ => False)
def tMkGK (C fI : Addr) (n : Nat) (sp : Sp) (gV : List V → List V → List V) (tk : TA) : TE := fun σ H Q => tk σ H fun zs H1 => zs.length = n ∧ ∀ a, H1 a = none → sp (gV [.ref a] zs) (upd H1 a (exo a C none)) (fun v H2 => v = .non ∧ Q (.ref a) H2) (fun _ _ _ => False)
/-- e.f of such an error -/
def tXg (K : PySem.W.Frag) (f : Str) (te : TE) : TE := fun σ H Q => te σ H fun x H1 => ∃ (a C fI d : Addr) (fs : List (Str × V)) (v : V), x = .ref a ∧ OexG K C fI ∧ PySem.W.findIn K (.ref C) f = some none ∧ H1 a = some (exo a C (some d)) ∧ H1 d = some (exd d fs) ∧ fs.lookup f = some v ∧ Q v H1
/-- isinstance(e, c) of such an error -/
def rIsG (K : PySem.W.Frag) : List V → Hp → VK → Prop := fun xs H Q => ∃ (a C fI d : Addr) (fs : List (Str × V)) (c : V) (u : Value) (b : Bool), xs = [.ref a, c] ∧ ClsV c u ∧ OexG K C fI ∧ H a = some (exo a C (some d)) ∧ H d = some (exd d fs) ∧
  PySem.W.kitOne K (.ref C) u = some b ∧ Q (.bl b) H
section
variable {X : Cx} {o e : Expr} {es : List Expr} {to te : TE} {ta tk : TA} {f x : Str} {p p' p1 p2 pos : Pos} {CX : CXT} {C fI : Addr} {k : Nat} {fd : FuncData} {ps ks : List Str} {sp : Sp} {kws : List Keyword} {g : List Value → List Value → List Value} {gV : List V → List V → List V}
theorem ps_ostG (ho : PE X o to) (he : PE X e te) (hs : swapsWith e (some (.Attribute o f p')) pos.line X.env = pure false := by rfl) : PS X (.Assign [.Attribute o f p'] e pos) (tOstG X.K f to te) := by
  refine ⟨fun pins s σ H D I h => ?_⟩
  refine plainObj_wpAny_Assign_Attribute (thn (he.run pins s σ H _ I h) fun v s1 ⟨y, H1, I1, r1, q1⟩ => thn (ho.run pins s1 σ H1 _ I1 q1) fun u s2 ⟨x, H2, I2, r2, a, C, fI, ex, T, hno, q⟩ => ?_) hs
  subst ex
  obtain rfl : u = Value.ref a := r2
  rcases q with ⟨ea, q⟩ | ⟨dx, fs, ea, ed, hl, q⟩
  · exact ost_first T I2 ea hno r1 fun dx s' n ne J => ⟨σ, _, J, q dx n ne⟩
  · exact ost_further T I2 ea ed hl hno r1 fun s' J => ⟨σ, _, J, q⟩
theorem run_mkG {pins : List (Addr × Obj)} {σ : St} {H1 : Hp} {s1 : Shared} {Q : VK} {us : List Value} {bV : Addr → List V} {bv : Addr → List Value} {kw : List (Str × Value)} (T : OexG X.K C fI) (F1 : FnOk X.prog X.w X.K X.mg X.base CX k fI fd ps sp) (hr : Room (k + 1) X.A)
    (hx : Passes CX X (fun _ _ _ => False)) (I1 : Inv X pins σ H1 s1) (hz : us.length ≤ sizeLine)
    (hbt : ∀ (a : Addr) (s : Shared), X.K.In s.heap → BindsTo s fd ⟨.ref a :: us, kw⟩ (ps.zip (bv a))) (r3 : ∀ a, Vals (bV a) (bv a))
    (h : ∀ a, H1 a = none → sp (bV a) (upd H1 a (exo a C none)) (fun v H2 => v = .non ∧ Q (.ref a) H2) (fun _ _ _ => False)) :
    wpAny (model X.prog X.w) X.A (call (.ref C) us kw) (EP X pins σ Q) X.xe s1 := by
  obtain ⟨B, newId, initId, bmB, FB, SB, nm, q, N, bs, bm, sn, sub, ab, col, dd, k0, k1, k2, k3, k5, hC, hbm⟩ := T.base
  obtain ⟨hp, g, dr, tk, os⟩ := s1
  have hsz : hp.objs.size ≤ hp.objs.size + 1 := Nat.le_succ _
  have hn : H1 (hp.objs.size + 1) = none := I1.hok.fresh hsz
  have hq := h (hp.objs.size + 1) hn
  have kk : ∀ b o, hp.get? b = some o → ((hp.push (PySem.W.kdv_tup us)).push (PySem.HandSPX.excO C hp.objs.size)).get? b = some o := fun b o e => Heap.get?_push_of_some _ (Heap.get?_push_of_some _ e)
  have hget : ((hp.push (PySem.W.kdv_tup us)).push (PySem.HandSPX.excO C hp.objs.size)).get? (hp.objs.size + 1) = some (PySem.HandSPX.excO C hp.objs.size) := by heap_get
  have I2 : Inv X pins σ (upd H1 (hp.objs.size + 1) (exo (hp.objs.size + 1) C none)) ⟨(hp.push (PySem.W.kdv_tup us)).push (PySem.HandSPX.excO C hp.objs.size), g, dr, tk, os⟩ :=
    I1.laid (t' := tk) (a := hp.objs.size + 1) (o := exo (hp.objs.size + 1) C none) (h' := (hp.push (PySem.W.kdv_tup us)).push (PySem.HandSPX.excO C hp.objs.size)) kk hsz (exo_ok hget)
  refine wpAny_call (PySem.LwX.call_kw FB (fun Y => PySem.W.excTail_contains Y bm hbm) (I1.kIn _ _ hC) (PySem.W.looks_findIn I1.kIn T.iC) (fun self => PySem.W.bind_fn I1.kIn self T.tI) hz
    (codeAny_mono (F1.run _ X.stack _ _ ⟨Value.ref (hp.objs.size + 1) :: us, kw⟩ (bv (hp.objs.size + 1)) _ _ (fun _ _ _ => False) (hr.make C us kw) (I2.env0.make C us kw) (hbt _ _ I2.kIn) (r3 _) hq) fun r s' hq' => ?_))
  cases r with
  | error er => exact hx pins σ _ _ er s' I2 hq'
  | ok fl =>
    cases fl with
    | ret u =>
      obtain ⟨v, H', I3, rv, ev, q3⟩ := I2.after hq'
      subst ev
      exact ⟨rv, ⟨V.ref (hp.objs.size + 1), H', I3, rfl, q3⟩⟩
    | next => exact False.elim hq'
    | brk => exact False.elim hq'
    | cont => exact False.elim hq'
theorem pe_mkG (T : OexG X.K C fI) (F1 : FnOk X.prog X.w X.K X.mg X.base CX k fI fd ps sp) (hr : Room (k + 1) X.A) (hb : Binds X.K fd ps []) (hx : Passes CX X (fun _ _ _ => False)) (hg : Gl X x) (hm : X.mg x = some (.ref C)) (ha : PA X (e :: es) ta)
    (hdb : (x == ("__debug__" : Str)) = false := by decide) (he : starEach (e :: es) X.env = (false, eval e X.env) :: starEach es X.env := by rfl) (hpl : (backTo pos (starEach es X.env)).any (·.1) = false := by rfl) :
    PE X (.Call (.Name x p) (e :: es) [] pos) (tMkG C fI X.K sp ta) := by
  refine ⟨fun pins s σ H Q I h => ?_⟩
  refine wpAny_Call_Name_kw (ld_glob I hg hm ?_ hdb)
  refine PySem.W.callWith_K (h₀ := X.base) I.ok.mod.kin T.kC (thn (ha.run pos pins s σ H _ I h) fun us s1 ⟨vs, H1, I1, r1, hz, q1⟩ => ⟨I1.kIn, ?_⟩) he hpl
  show wpAny _ _ (call (.ref C) us) _ _ _
  refine run_mkG (bv := fun a => .ref a :: us) (bV := fun a => .ref a :: vs) (kw := []) T F1 hr hx I1 (by rw [← Paired.length r1, sizeLine_eq]; omega) (fun a s hk => ?_) (fun a => .cons rfl r1) q1
  have hl : (Value.ref a :: us).length = ps.length := by
    obtain ⟨b, hb0⟩ : ∃ b, H1 b = none := ⟨_, I1.hok.fresh (Nat.le_refl _)⟩
    have z := F1.len _ _ _ _ (q1 b hb0)
    rw [List.length_cons, ← Paired.length r1]
    exact z
  have z := hb s (Value.ref a :: us) hk (by rw [List.append_nil]; exact hl)
  rw [List.append_nil] at z
  exact z
theorem pe_mkGK (T : OexG X.K C fI) (F1 : FnOk X.prog X.w X.K X.mg X.base CX k fI fd ps sp) (hr : Room (k + 1) X.A) (hb : KBn X.K fd ps 1 ks g gV) (hx : Passes CX X (fun _ _ _ => False)) (hg : Gl X x) (hm : X.mg x = some (.ref C)) (hkw : PK X kws tk)
    (hall : (backToKw pos (keywordEach kws X.env)).all (·.1.isSome) = true := by rfl) (hks : (backToKw pos (keywordEach kws X.env)).filterMap (·.1) = ks := by rfl) (hdb : (x == ("__debug__" : Str)) = false := by decide)
    (hpl : ((backTo pos (starEach [] X.env)).any (·.1) || (backToKw pos (keywordEach kws X.env)).any (·.1.isNone)) = false := by rfl) :
    PE X (.Call (.Name x p) [] kws pos) (tMkGK C fI ks.length sp gV tk) := by
  refine ⟨fun pins s σ H Q I h => ?_⟩
  refine wpAny_Call_Name_kw (ld_glob I hg hm ?_ hdb)
  refine PySem.W.callWith_KW0 (h₀ := X.base) I.ok.mod.kin T.kC hall ?_ hpl
  refine thn (hkw.run pos pins s σ H _ I h) fun ws s2 ⟨zs, H2, I2, rz, l2, q2⟩ => ⟨I2.kIn, ?_⟩
  rw [hks]
  exact run_mkG (us := []) (bv := fun a => g [.ref a] ws) (bV := fun a => gV [.ref a] zs) T F1 hr hx I2 (Nat.zero_le _) (fun a s hk => hb.to s [.ref a] ws hk rfl (rz.length.symm.trans l2)) (fun a => hb.rel (.cons rfl .nil) rz) q2
theorem pe_xg (he : PE X e te) (hb : attributeBase e f X.env (eval e X.env) = eval e X.env := by rfl) : PE X (.Attribute e f pos) (tXg X.K f te) := by
  refine ⟨fun pins s σ H Q I h => ?_⟩
  refine attr_of hb (thn (he.run pins s σ H _ I h) fun u s1 hh => ?_)
  obtain ⟨x, H1, I1, rx, a, C, fI, d, fs, v, ex, T, hno, ea, ed, l, q⟩ := hh
  subst ex
  obtain rfl : u = Value.ref a := rx
  obtain ⟨t1, ho⟩ := exo_at I1.hok ea
  obtain ⟨mA, hns, hr⟩ := exd_at I1.hok ed
  obtain ⟨od, hod, hl⟩ := lookIn_ns hns
  obtain ⟨u, hu, ru⟩ := RelO.some_of (v := v) (o := mA f) (by rw [← l]; exact hr f)
  have J : PySem.W.InstAt s1.heap a { cls := .ref C, dict := some d, data := .fields #[.ref t1, .none, .none, .none, .bool false, .none] } C (some od) := ⟨ho, rfl, rfl, hod⟩
  exact HandSPX.exc_get I1.kIn J T.ga T.gg T.exC (PySem.W.findObj_own T.hdC hno rfl (by rw [hl, hu])) (handed_of ru) ⟨v, H1, I1.tok _, ru, q⟩
theorem call_isG : CallR X (.builtin "isinstance") (rIsG X.K) := by
  intro pins s σ H xs us Q I r h
  obtain ⟨a, C, fI, d, fs, c, u, b, rfl, k, T, ea, ed, e, q⟩ := h
  obtain ⟨u1, u2, rfl, r1, r2⟩ := vals2 r
  have e2 := k.eq r2
  subst e2
  cases (show u1 = Value.ref a from r1)
  obtain ⟨t1, ho⟩ := exo_at I.hok ea
  obtain ⟨mA, hns, hr⟩ := exd_at I.hok ed
  obtain ⟨od, hod, hl⟩ := lookIn_ns hns
  have J : PySem.W.InstAt s.heap a { cls := .ref C, dict := some d, data := .fields #[.ref t1, .none, .none, .none, .bool false, .none] } C (some od) := ⟨ho, rfl, rfl, hod⟩
  have hcl : (PySem.W.clsIn X.K C).isSome = true := by
    obtain ⟨cdD, hcD, _⟩ := PySem.W.any_some T.hdC
    rw [hcD]
    rfl
  exact PySem.W.kia_one (PySem.W.kitx_exc hcl T.ga T.gg T.exC T.ha T.hn T.ht T.hm) I.kIn J e (fun z => nomatch z) fun tk => ⟨.bl b, H, I.tok tk, rfl, q⟩
end
end L2

/-! E3 -/
/-! ### repr of nested data, an empty dict among it, where no repr is under way -/
namespace L2
open PySem PySem.Spec PyProof.Rows
mutual
inductive Dq (K : PySem.W.Frag) (H : Hp) : V → PyData → Prop
  | non : Dq K H .non .none
  | bl (b : Bool) : Dq K H (.bl b) (.bool b)
  | int (i : Int) : Dq K H (.int i) (.int i)
  | str (x : Str) : Dq K H (.str x) (.str x)
  | lst {a : Addr} {xs : List V} {ds : List PyData} : SqL K H a xs → DqAll K H xs ds → Dq K H (.ref a) (.list ds)
  | tup {a : Addr} {xs : List V} {ds : List PyData} : SqT K H a xs → DqAll K H xs ds → Dq K H (.ref a) (.tuple ds)
  | dic {a : Addr} : H a = some (.dK []) → Dq K H (.ref a) (.dict [])
inductive DqAll (K : PySem.W.Frag) (H : Hp) : List V → List PyData → Prop
  | nil : DqAll K H [] []
  | cons {v : V} {vs : List V} {d : PyData} {ds : List PyData} : Dq K H v d → DqAll K H vs ds → DqAll K H (v :: vs) (d :: ds)
end
section
variable {X : Cx} {pins : List (Addr × Obj)} {σ : St} {H : Hp} {s : Shared}
mutual
theorem Dq.reprs (I : Inv X pins σ H s) : ∀ (d : PyData) (v : V) (u : Value), Dq X.K H v d → RelV v u → d.showable = true → d.shown.length ≤ sizeLine →
    ∃ as bs, Reads s.heap u d as ∧ ReadAtMost s.heap d.depth bs ∧ ReprK X.prog X.w bs s.heap d.depth u d.shown
  | .none, _, _, h, r, _, _ => by
    cases h
    cases r
    exact ⟨_, [], Reads.none, (fun _ h => nomatch h), by simp only [PyData.shown]; exact .of_is ReprIs.none _ _ _⟩
  | .bool b, _, _, h, r, _, _ => by
    cases h
    cases r
    exact ⟨_, [], Reads.bool b, (fun _ h => nomatch h), by simp only [PyData.shown]; exact .of_is (ReprIs.bool b) _ _ _⟩
  | .int i, _, _, h, r, hs, _ => by
    cases h
    obtain ⟨t, rfl⟩ := r
    exact ⟨_, [], Reads.int i t, (fun _ h => nomatch h), by simp only [PyData.shown]; exact .of_is (ReprIs.int t (by simpa [PyData.showable] using hs)) _ _ _⟩
  | .str x, _, _, h, r, _, hz => by
    cases h
    obtain ⟨t, rfl⟩ := r
    exact ⟨_, [], Reads.str x t, (fun _ h => nomatch h), by simp only [PyData.shown]; exact .of_is (ReprIs.str x t (by simpa only [PyData.shown] using hz)) _ _ _⟩
  | .list ds, _, _, h, r, hs, hz => by
    cases h with
    | @lst a xs _ hq ha =>
      cases r
      obtain ⟨its, rv, ⟨o, n, ho, hc, _, hd⟩, _⟩ := I.list hq
      have hz' : (listText (PyData.shownAll ds)).length ≤ sizeLine := by simpa only [PyData.shown] using hz
      obtain ⟨as, bs, hr, hb, hk⟩ := Dq.reprsAll I ds _ its ha rv (by simpa [PyData.showable] using hs) (fun t ht => Nat.le_trans (listText_mem_le ht) hz')
      have rr : Reads s.heap (.ref a) (.list ds) _ := Reads.list ho hc hd hr
      have hna : a ∉ bs := not_mem_of_deeper rr (by simp only [PyData.depth]; omega) hb
      refine ⟨_, a :: bs, rr, ReadAtMost.cons rr (by simp only [PyData.depth]; omega) hb, ?_⟩
      simp only [PyData.depth, PyData.shown]
      cases its with
      | nil =>
        have h4' : ReadsAll s.heap [] ds _ := hr
        cases h4'
        simp only [PyData.shownAll, listText_nil]
        exact ReprK.listEmpty ho hc hd
      | cons x l => exact ReprK.list ho hc hd hna (by simpa using hk.length_eq) (fun i y e => hk.item i y (by simpa using e))
  | .tuple ds, _, _, h, r, hs, hz => by
    cases h with
    | @tup a xs _ hq ha =>
      cases r
      obtain ⟨its, rv, ⟨o, ho, hc, n, hd⟩, _⟩ := I.tuple hq
      have hz' : (tupleText (PyData.shownAll ds)).length ≤ sizeLine := by simpa only [PyData.shown] using hz
      obtain ⟨as, bs, hr, hb, hk⟩ := Dq.reprsAll I ds _ its ha rv (by simpa [PyData.showable] using hs) (fun t ht => Nat.le_trans (tupleText_mem_le ht) hz')
      have rr : Reads s.heap (.ref a) (.tuple ds) _ := Reads.tuple ho hc hd hr
      have hna : a ∉ bs := not_mem_of_deeper rr (by simp only [PyData.depth]; omega) hb
      refine ⟨_, a :: bs, rr, ReadAtMost.cons rr (by simp only [PyData.depth]; omega) hb, ?_⟩
      simp only [PyData.depth, PyData.shown]
      exact ReprK.tuple ho hc hd hna hk
  | .dict kvs, _, _, h, r, hs, hz => by
    cases h with
    | @dic a ea =>
      cases r
      obtain ⟨_, hsys, vs, kv, o, es, ep, h1, h2, h3⟩ := (show ObjOk X.prog X.w H s.heap a (.dK []) from I.hok a _ ea)
      cases kv
      have hes : es.toList = [] := List.eq_nil_of_length_eq_zero (by rw [PySem.Pairs.length h3.2.2.1]; rfl)
      have e1 : ReadsAll s.heap (es.toList.map (·.key)) (([] : List (PyData × PyData)).map (·.1)) [] := by rw [hes]; exact .nil
      have e2 : ReadsAll s.heap (es.toList.map (·.val)) (([] : List (PyData × PyData)).map (·.2)) [] := by rw [hes]; exact .nil
      have rr : Reads s.heap (.ref a) (.dict []) _ := Reads.dict h1 h2.1 h3.1 e1 e2
      refine ⟨_, [a], rr, ReadAtMost.cons rr (Nat.zero_le (PyData.dict []).depth) (fun _ h => nomatch h), ?_⟩
      simp only [PyData.depth, PyData.shown, PyData.shownKv]
      exact ReprK.dict h1 h2.1 h3.1 hsys (List.not_mem_nil) (by rw [hes]; exact .nil)
theorem Dq.reprsAll (I : Inv X pins σ H s) : ∀ (ds : List PyData) (vs : List V) (us : List Value), DqAll X.K H vs ds → Vals vs us → PyData.showableAll ds = true → (∀ t ∈ PyData.shownAll ds, t.length ≤ sizeLine) →
    ∃ as bs, ReadsAll s.heap us ds as ∧ ReadAtMost s.heap (PyData.depthAll ds) bs ∧ ReprAllK X.prog X.w bs s.heap (PyData.depthAll ds) us (PyData.shownAll ds)
  | [], _, _, h, r, _, _ => by
    cases h
    cases r
    exact ⟨_, [], ReadsAll.nil, (fun _ h => nomatch h), by simp only [PyData.shownAll]; exact .nil⟩
  | d :: ds, _, _, h, r, hs, hz => by
    cases h with
    | cons h1 h2 =>
      cases r with
      | cons r1 r2 =>
        have hs' : d.showable = true ∧ PyData.showableAll ds = true := by simpa [PyData.showableAll] using hs
        obtain ⟨as, b1, q1, hb1, k1⟩ := Dq.reprs I d _ _ h1 r1 hs'.1 (hz _ (by simp only [PyData.shownAll]; exact List.mem_cons_self ..))
        obtain ⟨bs, b2, q2, hb2, k2⟩ := Dq.reprsAll I ds _ _ h2 r2 hs'.2 (fun t ht => hz t (by simp only [PyData.shownAll]; exact List.mem_cons_of_mem _ ht))
        refine ⟨_, b1 ++ b2, ReadsAll.cons q1 q2, ?_, ?_⟩
        · intro b hm
          simp only [PyData.depthAll]
          rcases List.mem_append.mp hm with hm | hm
          · obtain ⟨d', as', r', hd'⟩ := hb1 b hm
            exact ⟨d', as', r', Nat.le_trans hd' (Nat.le_max_left _ _)⟩
          · obtain ⟨d', as', r', hd'⟩ := hb2 b hm
            exact ⟨d', as', r', Nat.le_trans hd' (Nat.le_max_right _ _)⟩
        · simp only [PyData.depthAll, PyData.shownAll]
          exact .cons ((k1.more fun b hb => List.mem_append_left _ hb).level_le (Nat.le_max_left _ _)) (k2.more_le (fun b hb => List.mem_append_right _ hb) (Nat.le_max_right _ _))
end
end
/-- repr of a list -/
def rRepr (K : PySem.W.Frag) : List V → Hp → VK → Prop := fun xs H Q => ∃ (a : Addr) (ds : List PyData), xs = [.ref a] ∧ Dq K H (.ref a) (.list ds) ∧ ds ≠ [] ∧ PyData.showableAll ds = true ∧ PyData.depthAll ds ≤ 40 ∧ (PyData.list ds).shown.length ≤ sizeLine ∧ Q (.str (PyData.list ds).shown) H
theorem call_reprL {X : Cx} (hg : X.A.guards = some []) (hu : X.A.units + 64 < cLine) : CallR X (.builtin "repr") (rRepr X.K) := by
  intro pins s σ H xs us Q I r h
  obtain ⟨a, ds, rfl, hd, hne, hs, hdep, hz, q⟩ := h
  obtain ⟨u, rfl, hu1⟩ := vals1 r
  cases (show u = Value.ref a from hu1)
  cases hd with
  | @lst _ xs _ hq ha =>
    obtain ⟨its, rv, ⟨o, n, ho, hc, _, hd⟩, _⟩ := I.list hq
    have hz' : (listText (PyData.shownAll ds)).length ≤ sizeLine := by simpa only [PyData.shown] using hz
    obtain ⟨as, bs, hr, hb, hk⟩ := Dq.reprsAll I ds _ its ha rv hs (fun t ht => Nat.le_trans (listText_mem_le ht) hz')
    have rr : Reads s.heap (.ref a) (.list ds) _ := Reads.list ho hc hd hr
    have hna : a ∉ bs := not_mem_of_deeper rr (by simp only [PyData.depth]; omega) hb
    cases its with
    | nil =>
      have h4' : ReadsAll s.heap [] ds _ := hr
      cases h4'
      exact absurd rfl hne
    | cons x l =>
      refine call_repr_slot (T := "list") (idr := "list.__repr__") (by omega) ⟨o, ho, hc⟩ F.slot_list_repr.toG ?_
      refine call_list_reprK ho hc hd hna (by simpa using hk.length_eq) (fun i y e => hk.item i y (by simpa using e)) (show X.A.in1.guards = some [] from hg) (fun b _ => Clear.nil b) (by show X.A.units + 1 + (PyData.depthAll ds + 1) < cLine; omega) (fun _ _ e => e) (fun h' u tk hk => ?_) hz'
      simp only [PyData.shown] at q
      exact ⟨_, _, rfl, ⟨.str (listText (PyData.shownAll ds)), H, I.kept hk, ⟨_, rfl⟩, q⟩⟩
end L2

/-! ### a def that is called where no repr is under way, and the law's own end -/
namespace L2
open PySem PySem.Spec PyProof.Rows
structure FnOkG (P : Program) (w : World) (K : PySem.W.Frag) (mg : Str → Option Value) (base : Heap) (CX : CXT) (k : Nat) (f : Addr) (fd : FuncData) (ps : List Str) (sp : Sp) : Prop where
  len : ∀ vs H Q E, sp vs H Q E → vs.length = ps.length
  run : ∀ (A : Around) (outer : List Env) (s : Shared) (H : Hp) (args : Args) (us : List Value) (vs : List V) (Q : VK) (E : XK), A.guards = some [] → Room k A → Env0 P w K mg base A outer s H → BindsTo s fd args (ps.zip us) → Vals vs us → sp vs H Q E →
    codeAny (model P w) A (.call (.ref f) args) (CR CX outer P w H s Q E) s
theorem fn_ofG {CX : CXT} {P : Program} {w : World} {K : PySem.W.Frag} {mg : Str → Option Value} {base : Heap} {k : Nat} {f : Addr} {name qual : Str} {params : Arguments} {body : List Stmt} {scope : Scope} {dV kV doc pm cdv ct oc : Value} {an od : Option Addr}
    {osl : Array (Option Value)} {N ps : List Str} {sp : Sp} (lk : K.lookup f = some ⟨oc, od, .func (PySem.W.fnOf name qual params body scope dV kV doc pm an cdv ct), osl⟩) (hcd : PySem.W.codeIn K cdv qual = true) (S : FnScope N ps scope)
    (len : ∀ vs H Q E, sp vs H Q E → vs.length = ps.length)
    (hbody : ∀ (A : Around) (outer : List Env) (s : Shared) (H : Hp) (vs : List V) (Q : VK) (E : XK), A.guards = some [] → Room k (A.deeper (envOfC qual scope s.heap.objs.size f cdv)) → sp vs H Q E →
      ∃ t, PSs (cxOf CX P w K mg base N qual scope f cdv A outer s H E) body t ∧ t { nx := fun _ H' => Q .non H', rt := Q } (start N vs) H) :
    FnOkG P w K mg base CX (k + 1) f (PySem.W.fnOf name qual params body scope dV kV doc pm an cdv ct) ps sp := by
  refine ⟨len, fun A outer s H args us vs Q E hgd hr e0 hb r hsp => ?_⟩
  have hl := len _ _ _ _ hsp
  have KX : K.In s.heap := e0.mod.kin.keeps fun b o e => (e0.bs b o e).1
  have lim : s.heap.NoLimit := e0.mod.nolimit.keeps fun b o e => (e0.bs b o e).1
  have hkind : ∀ y ∈ ps.zip us, scope.names.lookup y.1 = some .local ∨ (scope.names.lookup y.1 = some .cell ∧ ((cellsFrom (s.heap.objs.size + 1) scope.names []).lookup y.1).isSome = true) := fun ⟨n, v⟩ hy => by
    rcases S.par n (List.of_mem_zip hy).1 with q | q
    · exact .inl q
    · exact .inr ⟨q, PySem.W.cellsFrom_some _ _ _ (.inl q)⟩
  refine codeAny_call_function hr.depth (KX _ _ lk) rfl S.co S.gen rfl (PySem.W.codeRec_of KX hcd) (hb _ _ _ _ ?_)
  refine wpAny_newFunctionEnv_cells S.kind hkind fun env he s1 x => ?_
  subst he
  refine ⟨lim.keeps x.toInCall.keep, codeAny_func ?_⟩
  obtain ⟨t, ht, hq⟩ := hbody A outer s H vs Q E hgd (hr.deeper _) hsp
  have I : Inv (cxOf CX P w K mg base N qual scope f cdv A outer s H E) [] (start N vs) H s1 := inv_start S hr.hd e0 hl r x
  refine wpAny_mono (ht.run [] s1 (start N vs) H _ I hq) (fun fl s' hs => ?_) fun e s' hs => hs
  have fin : ∀ {σ' : St} {H' : Hp} {v : V} {u : Value}, Inv (cxOf CX P w K mg base N qual scope f cdv A outer s H E) [] σ' H' s' → RelV v u → Q v H' → CE outer P w H s Q u s' :=
    fun {σ' H' v u} J rv q => ⟨v, H', J.os, J.bare, J.base, J.hok, rv, q⟩
  cases fl with
  | ret u =>
    obtain ⟨v, σ', H', J, rv, q⟩ := hs
    exact fin J rv q
  | next =>
    obtain ⟨σ', H', J, q⟩ := hs
    exact fin (v := V.non) (u := Value.none) J rfl q
  | brk =>
    obtain ⟨_, _, _, q⟩ := hs
    exact False.elim q
  | cont =>
    obtain ⟨_, _, _, q⟩ := hs
    exact False.elim q
theorem Fun.okG {P : Program} {w : World} {K : PySem.W.Frag} {mg : Str → Option Value} {base : Heap} {x qual : Str} {st : Stmt} {f : Addr} {fd : FuncData} {N ps : List Str} {k : Nat} {sp : Sp} (F : Fun K x qual st f fd) (S : FnScope N ps (defScope st)) (len : ∀ vs H Q E, sp vs H Q E → vs.length = ps.length)
    (hbody : ∀ (cdv : Value) (A : Around) (outer : List Env) (s : Shared) (H : Hp) (vs : List V) (Q : VK) (E : XK), A.guards = some [] → Room k (A.deeper (envOfC qual (defScope st) s.heap.objs.size f cdv)) → sp vs H Q E →
      ∃ t, PSs (cxOf CX0 P w K mg base N qual (defScope st) f cdv A outer s H E).nox (defBody st) t ∧ t { nx := fun _ H' => Q .non H', rt := Q } (start N vs) H) : FnOkG P w K mg base CX0 (k + 1) f fd ps sp := by
  obtain ⟨oc, od, kV, doc, pm, an, cdv, ct, osl, rfl, lk, hcd⟩ := F.ex
  refine fn_ofG lk hcd S len fun A outer s H vs Q E hgd hr hsp => ?_
  obtain ⟨t, h, q⟩ := hbody cdv A outer s H vs Q E hgd hr hsp
  exact ⟨t, h.nox, q⟩
theorem law_callG {P : Program} {w : World} {K : PySem.W.Frag} {mg mb : Str → Option Value} {CX : CXT} {k : Nat} {fa a : Addr} {fd : FuncData} {x : Str} {sp : Sp} {s₁ : Shared} {vs : List Value} {ns : List Int}
    (KX : K.In s₁.heap) (hns : s₁.heap.Ns mainGlobals mg) (hb : s₁.heap.Ns builtinsNs mb) (hbb : ∀ x : Str, x ≠ "__name__" → mb x = bootBuiltins x) (hlim : s₁.heap.NoLimit) (hg : s₁.gens = #[])
    (ha : s₁.heap.get? a = some { cls := .type "list", data := .seq vs.toArray }) (hi : IntsAre vs ns) (hl : ns.length ≤ sizeLine) (hr : Room k callerA)
    (F : ∀ base : Heap, K.In base → base.Ns mainGlobals mg → FnOkG P w K mg base CX k fa fd [x] sp) (hbind : ∀ (s : Shared) (u : Value), BindsTo s fd ⟨[u], []⟩ [(x, u)])
    (hsp : ∀ H : Hp, Only H → SqL K H a (ns.map V.int) → sp [.ref a] H (fun v _ => v = .bl true) fun _ _ _ => False)
    (hCX : ∀ H e s', CX [] H s₁ (fun _ _ _ => False) e s' → False) :
    codeAny (model P w) callerA (.call (.ref fa) ⟨[.ref a], []⟩) (fun r s' => r = .ok (.ret (.bool true)) ∧ OldK s₁.heap s'.heap ∧ s'.os = s₁.os ∧ AllBare s'.gens) s₁ := by
  have rv := vals_ints hi
  have lenV := hi.length
  -- from an abstract heap in which nothing but the script may be tracked
  have core : ∀ H : Hp, Only H → SqL K H a (ns.map V.int) → HOk P w H s₁.heap → (∀ b, H b ≠ none → b = a) → (H a ≠ none → K.lookup a = none) →
      codeAny (model P w) callerA (.call (.ref fa) ⟨[.ref a], []⟩) (fun r s' => r = .ok (.ret (.bool true)) ∧ OldK s₁.heap s'.heap ∧ s'.os = s₁.os ∧ AllBare s'.gens) s₁ := by
    intro H hO hS hok hA hK
    have base_of : ∀ {b : Addr} {o : Obj}, s₁.heap.get? b = some o → H b = none → (hidT s₁.heap H).get? b = some o := fun e n => hidT_get e n
    have noA : ∀ {b : Addr} {o : Obj} {es : Array DictEntry} {ep : Nat}, s₁.heap.get? b = some o → o.data = .dict es ep → H b = none := fun {b o es ep} e d => by
      cases q : H b with
      | none => rfl
      | some u =>
        have e' : b = a := hA b (by rw [q]; simp)
        subst e'
        rw [ha] at e; cases e
        have d' : Data.seq vs.toArray _ = Data.dict es ep := d
        cases d'
    have nsK : ∀ {b : Addr} {m : Str → Option Value}, s₁.heap.Ns b m → (hidT s₁.heap H).Ns b m := fun {b m} ⟨o, es, ep, e, d, r⟩ => ⟨o, es, ep, base_of e (noA e d), d, r⟩
    have hKb : K.In (hidT s₁.heap H) := fun b o e => base_of (KX b o e) (by
      cases q : H b with
      | none => rfl
      | some u =>
        have e' : b = a := hA b (by rw [q]; simp)
        subst e'
        rw [hK (by rw [q]; simp)] at e; cases e)
    have hM : Mod K mg (hidT s₁.heap H) := ⟨hKb, nsK hns, ⟨mb, nsK hb, hbb⟩, let ⟨mc, h1, h2⟩ := hlim; ⟨mc, nsK h1, h2⟩⟩
    have e0 : Env0 P w K mg (hidT s₁.heap H) callerA [] s₁ H := ⟨rfl, hM, fun b o e => of_hidT e, Nat.le_of_eq (hidT_size _ _), trivial, fun b hb => absurd (show b ∈ ([] : List Addr) from hb) (by simp), hok, .of_eq hg⟩
    refine codeAny_mono ((F _ hKb (nsK hns)).run callerA [] s₁ H ⟨[.ref a], []⟩ [.ref a] [.ref a] _ _ rfl hr e0 (hbind s₁ (.ref a)) (.cons rfl .nil) (hsp H hO hS)) fun r s' h => ?_
    cases r with
    | error e => exact (hCX H e s' h).elim
    | ok fl =>
      cases fl with
      | next => exact False.elim h
      | brk => exact False.elim h
      | cont => exact False.elim h
      | ret u =>
        obtain ⟨v, H', os, bare, un, hok', r', q⟩ := h
        have q' : v = .bl true := q
        subst q'
        obtain rfl : u = Value.bool true := r'
        refine ⟨rfl, OldK.of_keep fun b o e => ?_, os, bare⟩
        cases q : H b with
        | none => exact un.keep b o e q (by intro z; exact absurd (show b ∈ ([] : List Addr) from z) (by simp)) (by simp)
        | some u =>
          rcases hO b with z | ⟨ob, xs, z⟩
          · rw [q] at z; cases z
          · have z2 := un.frzs b ob _ z
            obtain ⟨e1, _⟩ := hok b _ z
            obtain ⟨e2, _⟩ := hok' b _ z2
            rw [e] at e1; cases e1
            exact e2
  cases hk : K.lookup a with
  | some o =>
    -- the script is one of the module's own objects
    have e := KX a o hk
    rw [ha] at e
    cases e
    refine core (fun _ => none) (fun _ => .inl rfl) (.inr ⟨_, vs.toArray, _, hk, rfl, rfl, rfl, by rw [List.size_toArray, lenV]; exact hl, by simpa using rv⟩) (fun b u z => by have z' : (none : Option HO) = some u := z; cases z') (fun b z => absurd rfl z) fun z => absurd rfl z
  | none =>
    refine core (fun b => if b = a then some (.frz { cls := .type "list", data := .seq vs.toArray } (.lst (ns.map V.int))) else none) (fun b => ?_) (.inl (.inr ⟨{ cls := .type "list", data := .seq vs.toArray }, if_pos rfl⟩)) (fun b u z => ?_) (fun b z => ?_) fun _ => hk
    · by_cases hb : b = a
      · exact .inr ⟨_, _, if_pos hb⟩
      · exact .inl (if_neg hb)
    · by_cases hb : b = a
      · have z' := (if_pos hb).symm.trans z
        cases z'
        subst hb
        exact ⟨ha, by rw [List.length_map]; exact hl, vs, _, rv, ha⟩
      · have z' := (if_neg hb).symm.trans z
        cases z'
    · by_cases hb : b = a
      · exact hb
      · exact absurd (if_neg hb) z
theorem walk_ofG {l : PySem.W.OpenLaw} {n k : Nat} {q : Program} {loose : List Str} {XP : (Str → Option Value) → Heap → Prop} {YP : World → Heap → Prop} {d : DefRec} {K : Params → PySem.W.Frag} {CX : World → CXT} {sp : World → Sp} {x : Str}
    (hn : l.most = some n) (hn2 : n ≤ sizeLine) (hdf : d.params.defaults = []) (hr : Room k callerA)
    (hY : ∀ (w : World) (h : Heap), YP w h → (K w.params).In h)
    (F : ∀ (w : World) (mg : Str → Option Value) (fa : Addr) (h : Heap), (K w.params).In h → h.Ns mainGlobals mg → mg d.name = some (.ref fa) →
      ∃ fd : FuncData, (∀ (s : Shared) (u : Value), BindsTo s fd ⟨[u], []⟩ [(x, u)]) ∧
        ∀ base : Heap, (K w.params).In base → base.Ns mainGlobals mg → FnOkG l.prog w (K w.params) mg base (CX w) k fa fd [x] (sp w))
    (hsp : ∀ (w : World) (H : Hp) (a : Addr) (ns : List Int), ns.length ≤ n → Only H → SqL (K w.params) H a (ns.map V.int) → sp w [.ref a] H (fun v _ => v = .bl true) fun _ _ _ => False)
    (hCX : ∀ (w : World) (H : Hp) (s : Shared) (e : Value) (s' : Shared), CX w [] H s (fun _ _ _ => False) e s' → False) :
    PySem.W.WalkO q loose XP YP l.row.toRowW d [] (fun f vs => PySem.call f vs) := by
  refine Att.attach_call hn hdf fun w s₀ s₁ mg mb fa o pm cd doc a vs ns G Y ho hd hcd hmg hobj hints hlen hg => ?_
  have KX := hY w _ Y
  obtain ⟨fd, hb, hF⟩ := F w mg fa _ KX G.T.g hmg
  exact law_callG KX G.T.g G.T.b G.T.builtins G.T.nolimit hg hobj hints (Nat.le_trans hlen hn2) hr hF hb (fun H hO hS => hsp w H a ns hlen hO hS) fun H e s' => hCX w H s₁ e s'
end L2
/-! ### own __add__ and __radd__ -/
namespace PySem
namespace LwX
open PySem.W PySem.Calls
section
variable {prog : Program} {w : World} {A : Around} {E : Value → Shared → Prop} {s : Shared} {K : Frag} {x C f : Addr} {ox : Obj} {od : Option Obj} {T : String}
/-- x + b, b of a built-in type -/
theorem add_own {b : Value} {fo ro rc : Option Value} {Q : Value → Shared → Prop} (X : K.In s.heap) (I : InstAt s.heap x ox C od) (hb : ∀ M, Looks M s.heap (typeOf b) (.type T)) (hc : selfFirst K C = true)
    (hs : findIn K (.ref C) "__add__" = some (some (.ref f))) (hf : isFn K (.ref f) = true) (hr : findIn K (.ref C) "__radd__" = some rc) (hp : rc = none ∨ ∃ g : Addr, rc = some (.ref g))
    (h1 : findIn K (.type T) "__add__" = some fo) (h2 : findIn K (.type T) "__radd__" = some ro) (hsub : subIn K (.type T) (.ref C) = some false)
    (h : wpAny (model prog w) A (call (.ref f) [.ref x, b]) (CmpBack Q) E s) : wpAny (model prog w) A (binaryOp .Add (.ref x) b) Q E s := by
  obtain ⟨cd, rest, hcd, hm⟩ := ksp_first hc
  have one := ksp_try X I hs hf h
  obtain ⟨hh, g, d, tt, os⟩ := s
  have L1 : Looks (model prog w) hh (typeOf (.ref x)) (.ref C) := I.type
  have L2 : Looks (model prog w) hh (typeOf b) (.type T) := hb _
  have L3 : Looks (model prog w) hh (fillsNumberSlot (.ref C) "add") true := fills_K X hcd hm hs
  have L4 : Looks (model prog w) hh (fillsNumberSlot (.type T) "add") ((fo.isSome && !isSeqSlot fo) || (ro.isSome && !isSeqSlot ro)) := ksp_fillsT X h1 h2
  have L5 : Looks (model prog w) hh (isSubtype (.type T) (.ref C)) false := looks_subIn X hsub
  have L6 : Looks (model prog w) hh (numberSlotInPython (.ref C) "add") true := ksp_inPy X hs hr hp
  have L7 : Looks (model prog w) hh (numberSlotInPython (.type T) "add") false := Looks.of_pure rfl
  have L8 : Looks (model prog w) hh (typeLookup (.type T) (dunderR "add")) ro := looks_findIn X h2
  generalize ((fo.isSome && !isSeqSlot fo) || (ro.isSome && !isSeqSlot ro)) = right at L4
  have hne : (Value.ref C == Value.type T) = false := Bool.eq_false_iff.mpr fun q => by cases beq_iff_eq.mp q
  have hi : Operator.info .Add = ("+", "add") := rfl
  simp only [binaryOp, hi]
  refine wpAny_holding (wpAny_bind ?_)
  unfold binaryOp1
  refine wpAny_bind (L1.at (wpAny_bind (L2.at (wpAny_bind (L3.at ?_)))))
  simp only [hne, Bool.false_eq_true, if_false]
  cases right with
  | false =>
    ksp_lk
    refine wpAny_mono one (fun r s' hr' => ?_) fun _ _ e => e
    obtain ⟨v, rfl, hq⟩ := hr'
    ksp_lk
    exact hq
  | true =>
    ksp_lk
    refine wpAny_mono one (fun r s' hr' => ?_) fun _ _ e => e
    obtain ⟨v, rfl, hq⟩ := hr'
    ksp_lk
    exact hq
/-- x + y, both of the class at C -/
theorem add_same {y : Addr} {oy : Obj} {oyd : Option Obj} {Q : Value → Shared → Prop} (X : K.In s.heap) (I : InstAt s.heap x ox C od) (J : InstAt s.heap y oy C oyd) (hc : selfFirst K C = true)
    (hs : findIn K (.ref C) "__add__" = some (some (.ref f))) (hf : isFn K (.ref f) = true)
    (h : wpAny (model prog w) A (call (.ref f) [.ref x, .ref y]) (CmpBack Q) E s) : wpAny (model prog w) A (binaryOp .Add (.ref x) (.ref y)) Q E s := by
  obtain ⟨cd, rest, hcd, hm⟩ := ksp_first hc
  have one := ksp_try X I hs hf h
  obtain ⟨hh, g, d, tt, os⟩ := s
  have L1 : Looks (model prog w) hh (typeOf (.ref x)) (.ref C) := I.type
  have L2 : Looks (model prog w) hh (typeOf (.ref y)) (.ref C) := J.type
  have L3 : Looks (model prog w) hh (fillsNumberSlot (.ref C) "add") true := fills_K X hcd hm hs
  have hi : Operator.info .Add = ("+", "add") := rfl
  simp only [binaryOp, hi]
  refine wpAny_holding (wpAny_bind ?_)
  unfold binaryOp1
  refine wpAny_bind (L1.at (wpAny_bind (L2.at (wpAny_bind (L3.at ?_)))))
  simp only [beq_self_eq_true, if_true]
  ksp_lk
  refine wpAny_mono one (fun r s' hr' => ?_) fun _ _ e => e
  obtain ⟨v, rfl, hq⟩ := hr'
  ksp_lk
  exact hq
/-- a + x, a of a built-in type whose + is a sequence's -/
theorem radd_own {a : Value} {fa : Addr} {fo ro : Option Value} {Q : Value → Shared → Prop} (X : K.In s.heap) (I : InstAt s.heap x ox C od) (ha : ∀ M, Looks M s.heap (typeOf a) (.type T)) (hc : selfFirst K C = true)
    (hs0 : findIn K (.ref C) "__add__" = some (some (.ref fa))) (hs : findIn K (.ref C) "__radd__" = some (some (.ref f))) (hf : isFn K (.ref f) = true)
    (h1 : findIn K (.type T) "__add__" = some fo) (h2 : findIn K (.type T) "__radd__" = some ro) (hseq : ((fo.isSome && !isSeqSlot fo) || (ro.isSome && !isSeqSlot ro)) = false)
    (h : wpAny (model prog w) A (call (.ref f) [.ref x, a]) (CmpBack Q) E s) : wpAny (model prog w) A (binaryOp .Add a (.ref x)) Q E s := by
  obtain ⟨cd, rest, hcd, hm⟩ := ksp_first hc
  have one := ksp_try X I hs hf h
  obtain ⟨hh, g, d, tt, os⟩ := s
  have L1 : Looks (model prog w) hh (typeOf (.ref x)) (.ref C) := I.type
  have L2 : Looks (model prog w) hh (typeOf a) (.type T) := ha _
  have L3 : Looks (model prog w) hh (fillsNumberSlot (.ref C) "add") true := fills_K X hcd hm hs0
  have L4 : Looks (model prog w) hh (fillsNumberSlot (.type T) "add") false := by
    rw [← hseq]
    exact ksp_fillsT X h1 h2
  have hne : (Value.type T == Value.ref C) = false := Bool.eq_false_iff.mpr fun q => by cases beq_iff_eq.mp q
  have hi : Operator.info .Add = ("+", "add") := rfl
  simp only [binaryOp, hi]
  refine wpAny_holding (wpAny_bind ?_)
  unfold binaryOp1
  refine wpAny_bind (L2.at (wpAny_bind (L1.at (wpAny_bind (L4.at ?_)))))
  simp only [hne, Bool.false_eq_true, if_false]
  refine wpAny_bind (L3.at ?_)
  ksp_lk
  refine wpAny_mono one (fun r s' hr' => ?_) fun _ _ e => e
  obtain ⟨v, rfl, hq⟩ := hr'
  ksp_lk
  exact hq
end
end LwX
end PySem

/-! R2 -/
/-! ### enumerate over a tuple -/
namespace PySem
namespace LwX
open Sem (wp)
theorem meets_enumT (l : Addr) (items : Array Value) :
    Meets (Builtin.«enumerate.__new__» ⟨[.type "enumerate", .ref l], []⟩) (fun _ R s => s.heap.IsTuple l items ∧
      R (.ok (.ret (.ref (s.heap.push { cls := .type "tuple_iterator", data := .fields #[.ref l, .int 0 0] }).objs.size)))
        { s with heap := (s.heap.push { cls := .type "tuple_iterator", data := .fields #[.ref l, .int 0 0] }).push { cls := .type "enumerate", data := .fields #[.none, .bool false, .ref s.heap.objs.size, rawInt 0, .none, .none] } }) :=
  .of_wp fun prog w A R s h => by
    obtain ⟨hp, g, d, tk, os⟩ := s
    obtain ⟨hL, h⟩ := h
    have hsub := sub_enumerate
    have q1 : ∀ {A' : Around} {E : Value → Shared → Prop} {Q : Value → Shared → Prop}, Q (.ref hp.objs.size) ⟨hp.push { cls := .type "tuple_iterator", data := .fields #[.ref l, .int 0 0] }, g, d, tk, os⟩ → wpAny (model prog w) A' (pyIter (.ref l)) Q E ⟨hp, g, d, tk, os⟩ :=
      fun q => wpAny_pyIter_tuple (s := ⟨hp, g, d, tk, os⟩) hL q
    wp_walk using q1
    refine wpAny_stack_any fun st => wpAny_pure ?_
    split
    · rename_i c _ _ _ _ _
      cases (c == Value.type "enumerate") <;> (wp_walk using q1; exact ⟨_, rfl, h⟩)
    · wp_walk using q1
      exact ⟨_, rfl, h⟩
theorem call_enumT {prog : Program} {w : World} {A : Around} {E : Value → Shared → Prop} {s : Shared} {l : Addr} {items : Array Value} {Q : Value → Shared → Prop} (hL : s.heap.IsTuple l items)
    (h : ∀ h', IsEnum h' (s.heap.objs.size + 1) s.heap.objs.size 0 .none → h'.IsTupleIter s.heap.objs.size l 0 → h'.objs.size = s.heap.objs.size + 2 →
      (∀ b o, s.heap.get? b = some o → h'.get? b = some o) → Q (.ref (s.heap.objs.size + 1)) { s with heap := h' }) :
    wpAny (model prog w) A (call (.type "enumerate") [.ref l]) Q E s := by
  refine callType_new F.called_enumerate (by decide) (F.typeCall_enumerate_1 _) (F.newCall_enumerate_1 _) (fun obj => F.args_object_init_2 obj _) F.entry_enumerate_new (meets_enumT l items) ⟨hL, ?_⟩
  have hz : (s.heap.push { cls := .type "tuple_iterator", data := .fields #[.ref l, .int 0 0] }).objs.size = s.heap.objs.size + 1 := Heap.size_push ..
  show _ ∧ _
  rw [hz]
  have he : IsEnum ((s.heap.push { cls := .type "tuple_iterator", data := .fields #[.ref l, .int 0 0] }).push
      { cls := .type "enumerate", data := .fields #[.none, .bool false, .ref s.heap.objs.size, rawInt 0, .none, .none] }) (s.heap.objs.size + 1) s.heap.objs.size 0 .none := by
    have z := Heap.get?_push_size (s.heap.push { cls := .type "tuple_iterator", data := .fields #[.ref l, .int 0 0] })
      (o := { cls := .type "enumerate", data := .fields #[.none, .bool false, .ref s.heap.objs.size, rawInt 0, .none, .none] }) rfl
    rw [hz] at z
    exact z
  exact ⟨⟨_, he, rfl⟩, h _ he ⟨_, Heap.get?_push_of_some _ (Heap.get?_push_size _ rfl), rfl, rfl⟩ (by rw [Heap.size_push, hz]) fun b o x => Heap.get?_push_of_some _ (Heap.get?_push_of_some _ x)⟩
end LwX
end PySem
namespace L2
open PySem PySem.Spec PyProof.Rows
/-- the tuple at a, each item in a new pair -/
def IteT (K : PySem.W.Frag) (a : Addr) : It :=
  ⟨fun i H => ∃ (xs : List V) (x : V), SqT K H a xs ∧ xs[i]? = some x, fun i H v H' => ∃ T x, v = .ref T ∧ H T = none ∧ H' = upd H T (.tup [.int (i : Nat), x]) ∧ ∀ xs, SqT K H a xs → xs[i]? = some x, fun i H => ∃ xs : List V, SqT K H a xs ∧ xs.length = i⟩
theorem turn_enumT {P : Program} {w : World} {K : PySem.W.Frag} {elts : List Expr} {kk : Nat} {tpos : Pos} (a e it : Addr) :
    Turn P w K (.Tuple elts kk tpos) (IteT K a) [e, it] e (fun i h => (∃ old, IsEnum h e it ((i : Nat) : Int) old) ∧ h.IsTupleIter it a i ∧ e ≠ it) where
  mem := by simp
  obj := fun i h st b hb => by
    obtain ⟨⟨old, he⟩, ⟨o, ho, hc, hd⟩, _⟩ := st
    have e' : b = e ∨ b = it := by simpa using hb
    rcases e' with z | z
    · rw [z]; exact ⟨_, he, fun v q => nomatch q⟩
    · rw [z]; exact ⟨o, ho, fun v q => by rw [hd] at q; cases q⟩
  keep := fun i h h' st k => let ⟨⟨old, he⟩, hi, hne⟩ := st; ⟨⟨old, k e (by simp) _ he⟩, hi.at fun o q => k it (by simp) o q, hne⟩
  item := by
    intro X hP hw hK hc i pins s σ H E I hf st hg
    subst hP hw hK
    obtain ⟨⟨old, he⟩, hit, hne⟩ := st
    obtain ⟨xs, x, hq, hx⟩ := hg
    obtain ⟨its, rv, p, hz⟩ := I.tuple hq
    obtain ⟨u, hu, ru⟩ := rv.get hx
    have p' : s.heap.IsTuple a its.toArray := p
    have hel : e < s.heap.objs.size := Heap.lt_size he
    have hil : it < s.heap.objs.size := by obtain ⟨_, q, _⟩ := hit; exact Heap.lt_size q
    have hai : a ≠ it := by
      rintro rfl
      obtain ⟨o1, e1, c1, _⟩ := p'
      obtain ⟨o2, e2, c2, _⟩ := hit
      rw [e1] at e2
      cases e2
      rw [c1] at c2
      exact absurd (Value.type.inj c2) (by decide)
    have hae : e ∉ [it, a] := by
      intro z
      rcases List.mem_cons.mp z with z | z
      · exact hne z
      · rcases List.mem_cons.mp z with z | z
        · obtain ⟨o1, e1, c1, _⟩ := p'
          rw [← z, he] at e1
          cases e1
          exact absurd (Value.type.inj c1) (by decide)
        · cases z
    have hlt : i < its.toArray.size := by
      have z := (List.getElem?_eq_some_iff.mp hu).1
      simpa using z
    refine wpAny_pyNext_enum_itemD (Draws.tuple (A := X.A.in1) (show X.A.in1.handled = none from I.ok.hd hc) it a hai its.toArray) he ⟨hit, p'⟩ hlt hne hae fun x' h' tk hP ho hst hT hsz hk => ?_
    have ex : x' = u := by
      have z : its[i]? = some x' := by simpa using hP
      rw [hu] at z
      exact (Option.some.inj z).symm
    subst ex
    refine ⟨_, rfl, wpAny_letOwnedTupleGo_enum (s := { s with heap := h', toks := tk + 1 }) ho fun h'' he' sb => ?_⟩
    have hT2 : h''.get? s.heap.objs.size = some { cls := .type "tuple", data := .seq #[.int i tk, x'] } := (sb.2 _ (Nat.ne_of_gt hel)).trans hT
    have new : ObjOk X.prog X.w (upd H s.heap.objs.size (.tup [.int (i : Nat), x])) h'' s.heap.objs.size (.tup [.int (i : Nat), x]) :=
      ⟨by show 2 ≤ sizeLine; decide, [.int i tk, x'], .cons ⟨_, rfl⟩ (.cons ru .nil), ⟨_, hT2, rfl, _, rfl⟩⟩
    have I1 : Inv X pins σ (upd H s.heap.objs.size (.tup [.int (i : Nat), x])) { s with heap := h'', toks := tk + 1 } :=
      I.turnedNew (ch := [e, it]) (fun b ob hb q => (sb.2 b (fun z => hb (by simp [z]))).trans (hk b ob (fun z => hb (by simp [z])) (fun z => hb (by simp [z])) q)) hf (Nat.le_refl _) new
    refine ⟨.ref s.heap.objs.size, _, I1, rfl, ⟨_, x, rfl, I.hok.fresh (Nat.le_refl _), rfl, fun ys hy => by rw [I.tuple_inj hy hq]; exact hx⟩, ⟨⟨x', ?_⟩, hst.1.at fun o q => (sb.2 it (Ne.symm hne)).trans q, hne⟩, fun b hb => ?_⟩
    · have e1 : ((i + 1 : Nat) : Int) = (i : Int) + 1 := by omega
      rw [e1]; exact he'
    · have hb' : b < s.heap.objs.size := by
        have e' : b = e ∨ b = it := by simpa using hb
        rcases e' with z | z
        · rw [z]; exact hel
        · rw [z]; exact hil
      rw [upd_ne (Nat.ne_of_lt hb')]
      exact (hf b hb).1
  done := by
    intro X hP hw hK hc i pins s σ H E I hf st hg
    subst hP hw hK
    obtain ⟨⟨old, he⟩, hit, hne⟩ := st
    obtain ⟨xs, hq, hx⟩ := hg
    obtain ⟨its, rv, p, hz⟩ := I.tuple hq
    have p' : s.heap.IsTuple a its.toArray := p
    obtain ⟨f0, f1, f2, f3, f4, f5⟩ := hf it (by simp)
    have hl := rv.length
    have hai : a ≠ it := by
      rintro rfl
      obtain ⟨o1, e1, c1, _⟩ := p'
      obtain ⟨o2, e2, c2, _⟩ := hit
      rw [e1] at e2
      cases e2
      rw [c1] at c2
      exact absurd (Value.type.inj c2) (by decide)
    have en : i = its.toArray.size := by simp; omega
    rw [en] at hit
    exact wpAny_pyNext_enum_endD (Draws.tuple (A := X.A.in1) (show X.A.in1.handled = none from I.ok.hd hc) it a hai its.toArray) he ⟨hit, p'⟩ fun h' eb => ⟨rfl, I.turned (t' := s.toks) (fun b o hb q => eb b o hb q) f0 f1 f3 f4 f5⟩
  self := fun A i s Q E st h => let ⟨⟨_, he⟩, _⟩ := st; wpAny_pyIter_enum he h
def iEnumT (K : PySem.W.Frag) (ta : TA) : TI := fun σ H R => ta σ H fun vs H1 => ∃ a xs, vs = [.ref a] ∧ SqT K H1 a xs ∧ R (IteT K a) H1
theorem pi_enumT {X : Cx} {e : Expr} {ta : TA} {p pos tpos : Pos} {elts : List Expr} {kk : Nat} (hg : Gl X "enumerate") (hm : X.mg "enumerate" = none) (ha : PA X [e] ta) (hs : starEach [e] X.env = [(false, eval e X.env)] := by rfl) :
    PI X (.Tuple elts kk tpos) (.Call (.Name "enumerate" p) [e] [] pos) (iEnumT X.K ta) := by
  refine ⟨fun pins s σ H R I h => ?_⟩
  refine Call_ (ld_blt I hg hm boot_enumerate (PyProof.Rows.callWith_type1 (thn (ha.run pos pins s σ H _ I h) fun us s1 ⟨vs, H1, I1, r1, q1⟩ => ?_) hs rfl))
  obtain ⟨a, xs, ex, hq, q⟩ := q1
  subst ex
  cases r1 with
  | cons r rr =>
    cases rr
    cases r
    obtain ⟨its, rv, p', hz⟩ := I1.tuple hq
    refine PySem.LwX.call_enumT (items := its.toArray) p' fun h' he hit hsz hk => wpAny_pyIter_enum he ?_
    have I2 : Inv X pins σ H1 { s1 with heap := h' } := I1.kept (t' := s1.toks) hk
    refine ⟨s1.heap.objs.size + 1, [s1.heap.objs.size + 1, s1.heap.objs.size], _, _, H1, rfl, I2, turn_enumT a (s1.heap.objs.size + 1) s1.heap.objs.size, ⟨⟨.none, he⟩, hit, Nat.succ_ne_self _⟩, fun b hb => ?_, q⟩
    have e' : b = s1.heap.objs.size + 1 ∨ b = s1.heap.objs.size := by simpa using hb
    have hle : s1.heap.objs.size ≤ b := by
      rcases e' with z | z
      · rw [z]; exact Nat.le_add_right _ _
      · rw [z]; exact Nat.le_refl _
    exact I1.fpOk hle (I1.hok.fresh hle)
end L2

/-! R3 -/
/-! ### star calls of a class, own operators, static methods, raising, text * int -/
namespace L2
open PySem PySem.Spec PyProof.Rows StX
/-- the facts of a class with its own + from both sides -/
structure AddC (K : PySem.W.Frag) (C f g : Addr) : Prop where
  hc : PySem.W.selfFirst K C = true
  hs : PySem.W.findIn K (.ref C) "__add__" = some (some (.ref f))
  hf : PySem.W.isFn K (.ref f) = true
  hr : PySem.W.findIn K (.ref C) "__radd__" = some (some (.ref g))
  hg : PySem.W.isFn K (.ref g) = true
/-- what is asked of a built-in type beside it -/
structure AddT (K : PySem.W.Frag) (C : Addr) (T : String) : Prop where
  ex : ∃ fo ro, PySem.W.findIn K (.type T) "__add__" = some fo ∧ PySem.W.findIn K (.type T) "__radd__" = some ro
  sub : PySem.W.subIn K (.type T) (.ref C) = some false
structure RaddT (K : PySem.W.Frag) (T : String) : Prop where
  ex : ∃ fo ro, PySem.W.findIn K (.type T) "__add__" = some fo ∧ PySem.W.findIn K (.type T) "__radd__" = some ro ∧ ((fo.isSome && !isSeqSlot fo) || (ro.isSome && !isSeqSlot ro)) = false
def rAddT (K : PySem.W.Frag) (C : Addr) (sp : Sp) (E : XK) : R2 := fun x y H Q => ∃ (a dx : Addr) (fs : List (Str × V)) (T : String), x = .ref a ∧ H a = some (.ins C dx fs) ∧ TyX K H y (.type T) ∧ AddT K C T ∧ sp [.ref a, y] H (fun v H' => (∃ p, v = .ref p) ∧ Q v H') E
def rAddS (C : Addr) (sp : Sp) (E : XK) : R2 := fun x y H Q => ∃ (a b dx dy : Addr) (fs gs : List (Str × V)), x = .ref a ∧ y = .ref b ∧ H a = some (.ins C dx fs) ∧ H b = some (.ins C dy gs) ∧ sp [.ref a, .ref b] H (fun v H' => (∃ p, v = .ref p) ∧ Q v H') E
def rRaddT (K : PySem.W.Frag) (C : Addr) (sp : Sp) (E : XK) : R2 := fun x y H Q => ∃ (a dx : Addr) (fs : List (Str × V)) (T : String), y = .ref a ∧ H a = some (.ins C dx fs) ∧ TyX K H x (.type T) ∧ RaddT K T ∧ sp [.ref a, x] H (fun v H' => (∃ p, v = .ref p) ∧ Q v H') E
section
variable {X : Cx} {CX : CXT} {k : Nat} {f g C : Addr} {fd : FuncData} {ps : List Str} {sp : Sp} {E : XK} {x : Str} {e : Expr} {es : List Expr} {te : TE} {t : TA} {p sp_ pos : Pos}
theorem back_ref {pins : List (Addr × Obj)} {σ : St} {Q : VK} {u : Value} {s' : Shared} (h : EP X pins σ (fun v H' => (∃ p, v = .ref p) ∧ Q v H') u s') : PySem.W.CmpBack (fun u s' => EP X pins σ Q u s') u s' := by
  obtain ⟨v, H', I, r, ⟨p, rfl⟩, q⟩ := h
  cases (show u = Value.ref p from r)
  exact ⟨V.ref p, H', I, rfl, q⟩
theorem op_addT (A : AddC X.K C f g) (F : FnOk X.prog X.w X.K X.mg X.base CX k f fd ps sp) (hr : Room k X.A) (hb : Binds X.K fd ps []) (hx : Passes CX X E) : OpR X (binaryOp .Add) (rAddT X.K C sp E) := by
  intro pins s σ H x y v u Q I rx ry h
  obtain ⟨a, dx, fs, T, rfl, ha, ty, ⟨⟨fo, ro, h1, h2⟩, hsub⟩, q⟩ := h
  cases (show v = Value.ref a from rx)
  obtain ⟨P, Z, pz, hne⟩ := kit_of I ry ty
  obtain ⟨mA, O, _⟩ := ins_get I.hok ha
  obtain ⟨od, J, _⟩ := O.look
  refine PySem.LwX.add_own I.kIn J (fun M => Z.ty M _ I.kIn pz) A.hc A.hs A.hf A.hr (.inr ⟨_, rfl⟩) h1 h2 hsub ?_
  exact thn (run_fn (us := [.ref a, u]) (vs := [.ref a, y]) F hr hb .nil hx I (.cons rfl (.cons ry .nil)) q) fun _ _ z => back_ref z
theorem op_addS (A : AddC X.K C f g) (F : FnOk X.prog X.w X.K X.mg X.base CX k f fd ps sp) (hr : Room k X.A) (hb : Binds X.K fd ps []) (hx : Passes CX X E) : OpR X (binaryOp .Add) (rAddS C sp E) := by
  intro pins s σ H x y v u Q I rx ry h
  obtain ⟨a, b, dx, dy, fs, gs, rfl, rfl, ha, hb', q⟩ := h
  cases (show v = Value.ref a from rx)
  cases (show u = Value.ref b from ry)
  obtain ⟨mA, O, _⟩ := ins_get I.hok ha
  obtain ⟨od, J, _⟩ := O.look
  obtain ⟨mB, O2, _⟩ := ins_get I.hok hb'
  obtain ⟨od2, J2, _⟩ := O2.look
  refine PySem.LwX.add_same I.kIn J J2 A.hc A.hs A.hf ?_
  exact thn (run_fn (us := [.ref a, .ref b]) (vs := [.ref a, .ref b]) F hr hb .nil hx I (.cons rfl (.cons rfl .nil)) q) fun _ _ z => back_ref z
theorem op_raddT (A : AddC X.K C f g) (F : FnOk X.prog X.w X.K X.mg X.base CX k g fd ps sp) (hr : Room k X.A) (hb : Binds X.K fd ps []) (hx : Passes CX X E) : OpR X (binaryOp .Add) (rRaddT X.K C sp E) := by
  intro pins s σ H x y v u Q I rx ry h
  obtain ⟨a, dx, fs, T, rfl, ha, ty, ⟨fo, ro, h1, h2, h3⟩, q⟩ := h
  cases (show u = Value.ref a from ry)
  obtain ⟨P, Z, pz, hne⟩ := kit_of I rx ty
  obtain ⟨mA, O, _⟩ := ins_get I.hok ha
  obtain ⟨od, J, _⟩ := O.look
  refine PySem.LwX.radd_own I.kIn J (fun M => Z.ty M _ I.kIn pz) A.hc A.hs A.hr A.hg h1 h2 h3 ?_
  exact thn (run_fn (us := [.ref a, v]) (vs := [.ref a, x]) F hr hb .nil hx I (.cons rfl (.cons rx .nil)) q) fun _ _ z => back_ref z
/-- C(*y) -/
theorem pe_makeS1 (M : Mk X.K C f) (F : FnR X.prog X.w X.K X.mg X.base CX k f sp) (hr : Room (k + 1) X.A) (hg : Gl X x) (hm : X.mg x = some (.ref C)) (hx : Passes CX X E) (he : PE X e te) (hd : (x == ("__debug__" : Str)) = false := by decide)
    (hst : starEach [.Starred e sp_] X.env = [(true, eval e X.env)] := by rfl) :
    PE X (.Call (.Name x p) [.Starred e sp_] [] pos) (fun σ H Q => te σ H fun y H1 => ∃ a xs, y = V.ref a ∧ (SqT X.K H1 a xs ∨ SqL X.K H1 a xs) ∧ ∀ x dx, H1 x = Option.none → H1 dx = Option.none → dx ≠ x →
      sp (V.ref x :: xs) (upd (upd H1 dx (.own x)) x (.ins C dx [])) (fun v H2 => v = .non ∧ Q (.ref x) H2) E) := by
  refine ⟨fun pins s σ H Q I h => ?_⟩
  refine wpAny_Call_Name_kw (ld_glob I hg hm ?_ hd)
  refine PySem.W.callWith_S (h₀ := X.base) I.ok.mod.kin M.kp (thn (he.run pins s σ H _ I h) fun v s1 ⟨y, H1, I1, ry, a, xs, ey, hxs, q⟩ => ?_) hst
  subst ey
  obtain rfl : v = Value.ref a := ry
  exact star_any I1 hxs fun us s2 I2 rv => ⟨I2.kIn, run_makeR M F hr hx I2 rv q⟩
/-- C(e, .., *y, ..) -/
theorem pe_makeS2 (M : Mk X.K C f) (F : FnR X.prog X.w X.K X.mg X.base CX k f sp) (hr : Room (k + 1) X.A) (hg : Gl X x) (hm : X.mg x = some (.ref C)) (hx : Passes CX X E) (ha : PA X (e :: es) t) (hd : (x == ("__debug__" : Str)) = false := by decide)
    (he : starEach (e :: es) X.env = (false, eval e X.env) :: starEach es X.env := by rfl) (hst : (backTo pos (starEach es X.env)).any (·.1) = true := by rfl) : PE X (.Call (.Name x p) (e :: es) [] pos) (tMakeR C sp E t) := by
  refine ⟨fun pins s σ H Q I h => ?_⟩
  refine wpAny_Call_Name_kw (ld_glob I hg hm ?_ hd)
  refine PySem.W.callWith_S2 (h₀ := X.base) I.ok.mod.kin M.kp (thn (ha.run pos pins s σ H _ I h) fun us s1 ⟨vs, H1, I1, r, q⟩ => ⟨I1.kIn, ?_⟩) he hst
  exact run_makeR M F hr hx I1 r q
/-- C() -/
theorem pe_makeR0 (M : Mk X.K C f) (F : FnR X.prog X.w X.K X.mg X.base CX k f sp) (hr : Room (k + 1) X.A) (hg : Gl X x) (hm : X.mg x = some (.ref C)) (hx : Passes CX X E) (hd : (x == ("__debug__" : Str)) = false := by decide) : PE X (.Call (.Name x p) [] [] pos) (tMakeR C sp E tNil) := by
  refine ⟨fun pins s σ H Q I h => ?_⟩
  refine wpAny_Call_Name_kw (ld_glob I hg hm ?_ hd)
  exact PySem.W.callWith_K0 I.kIn M.kp (run_makeR (us := []) M F hr hx I .nil h)
end
/-! ### raising an own error with an __init__ of its own -/
def tMkX (C : Addr) (sp : Sp) (ta : TA) : St → Hp → XK → Prop := fun σ H Q => ta σ H fun vs H1 => vs.length ≤ 1000 ∧ ∀ a, H1 a = none → sp (.ref a :: vs) (upd H1 a (exo a C none))
  (fun v H2 => v = .non ∧ ∃ (d : Addr) (fs : List (Str × V)), H2 a = some (exo a C (some d)) ∧ H2 d = some (exd d fs) ∧ H1 d = none ∧ Q (.ref C) (some d) (upd (del H2 a) d (.xd fs))) (fun _ _ _ => False)
section
variable {X : Cx} {e : Expr} {es : List Expr} {ta : TA} {p pos : Pos}
theorem pmk_G {CX : CXT} {x : Str} {C fI : Addr} {k : Nat} {fd : FuncData} {ps : List Str} {sp : Sp} (T : OexG X.K C fI)
    (F1 : FnOk X.prog X.w X.K X.mg X.base CX k fI fd ps sp) (hr : Room (k + 1) X.A) (hb : Binds X.K fd ps []) (hx : Passes CX X (fun _ _ _ => False)) (hg : Gl X x) (hm : X.mg x = some (.ref C)) (ha : PA X (e :: es) ta)
    (hdb : (x == ("__debug__" : Str)) = false := by decide) (he : starEach (e :: es) X.env = (false, eval e X.env) :: starEach es X.env := by rfl) (hpl : (backTo pos (starEach es X.env)).any (·.1) = false := by rfl) :
    PMk X (.Call (.Name x p) (e :: es) [] pos) (tMkX C sp ta) := by
  intro pins s σ H Q I h
  obtain ⟨B, newId, initId, bmB, FB, SB, nm, q, N, bs, bm, sn, sub, ab, col, dd, k0, k1, k2, k3, k5, hC, hbm⟩ := T.base
  refine wpAny_Call_Name_kw (ld_glob I hg hm ?_ hdb)
  refine PySem.W.callWith_K (h₀ := X.base) I.ok.mod.kin T.kC (thn (ha.run pos pins s σ H _ I h) fun us s1 ⟨vs, H1, I1, r1, hz, q1⟩ => ⟨I1.kIn, ?_⟩) he hpl
  show wpAny _ _ (call (.ref C) us) _ _ _
  obtain ⟨hp, g, dr, tk, os⟩ := s1
  have hsz : hp.objs.size ≤ hp.objs.size + 1 := Nat.le_succ _
  have hn : H1 (hp.objs.size + 1) = none := I1.hok.fresh hsz
  have hq := q1 (hp.objs.size + 1) hn
  have kk : ∀ b o, hp.get? b = some o → ((hp.push (PySem.W.kdv_tup us)).push (PySem.HandSPX.excO C hp.objs.size)).get? b = some o := fun b o e => Heap.get?_push_of_some _ (Heap.get?_push_of_some _ e)
  have hget : ((hp.push (PySem.W.kdv_tup us)).push (PySem.HandSPX.excO C hp.objs.size)).get? (hp.objs.size + 1) = some (PySem.HandSPX.excO C hp.objs.size) := by heap_get
  have I2 : Inv X pins σ (upd H1 (hp.objs.size + 1) (exo (hp.objs.size + 1) C none)) ⟨(hp.push (PySem.W.kdv_tup us)).push (PySem.HandSPX.excO C hp.objs.size), g, dr, tk, os⟩ :=
    I1.laid (t' := tk) (a := hp.objs.size + 1) (o := exo (hp.objs.size + 1) C none) (h' := (hp.push (PySem.W.kdv_tup us)).push (PySem.HandSPX.excO C hp.objs.size)) kk hsz (exo_ok hget)
  have r2 : Vals (V.ref (hp.objs.size + 1) :: vs) (Value.ref (hp.objs.size + 1) :: us) := .cons rfl r1
  have hl : (Value.ref (hp.objs.size + 1) :: us).length = ps.length := by
    have z := F1.len _ _ _ _ hq
    rw [← z, r2.length]
  have hbt := hb ⟨(hp.push (PySem.W.kdv_tup us)).push (PySem.HandSPX.excO C hp.objs.size), g, dr, tk, os⟩ (Value.ref (hp.objs.size + 1) :: us) I2.kIn (by rw [List.append_nil]; exact hl)
  rw [List.append_nil] at hbt
  have hus : us.length ≤ sizeLine := by
    rw [← Paired.length r1, sizeLine_eq]
    omega
  refine wpAny_call (PySem.LwX.call_kw FB (fun Y => PySem.W.excTail_contains Y bm hbm) (I1.kIn _ _ hC) (PySem.W.looks_findIn I1.kIn T.iC) (fun self => PySem.W.bind_fn I1.kIn self T.tI) hus
    (codeAny_mono (F1.run _ X.stack _ _ ⟨Value.ref (hp.objs.size + 1) :: us, []⟩ (Value.ref (hp.objs.size + 1) :: us) _ _ (fun _ _ _ => False) (hr.make C us []) (I2.env0.make C us []) hbt r2 hq) fun r s' hq' => ?_))
  cases r with
  | error er => exact hx pins σ _ _ er s' I2 hq'
  | ok fl =>
    cases fl with
    | ret u =>
      obtain ⟨v, H2, os2, bare2, un2, hok2, rv, ev, d, fs, ea, ed, hd1, q2⟩ := hq'
      subst ev
      obtain ⟨h2, g2, d2, t2, os'⟩ := s'
      exact ⟨rv, mk_end (raises_own T.exC T.tyC) I1 hsz kk un2 hok2 os2 bare2 ea ed hd1 q2⟩
    | next => exact False.elim hq'
    | brk => exact False.elim hq'
    | cont => exact False.elim hq'
end
end L2

/-! R4 -/
/-! ### names and steps -/
namespace Rw
open PySem PySem.Spec PyProof.Rows L2
def top (i : Nat) : Stmt := PySem.Challenge.pw_takendown_k55_whole_rows_out_of_stocks.main.body.getD i (.Pass ⟨0, 0, 0, 0⟩)
theorem same_upd {H : Hp} {p : Addr} {o : HO} (h : H p = none) : Same H (upd H p o) := fun b x e => by
  rw [upd_ne (ne_of_none e h)]
  exact e
/-- for i, x in enumerate(tuple) -/
theorem for_enumT {K : PySem.W.Frag} {a : Addr} {xs : List V} {g : TG} {tb : TS} {D : Ends} {σ : L2.St} {H : Hp} (Pv : Nat → L2.St → Hp → Prop) (h0 : Pv 0 σ H) (hl : ∀ i σ H, i ≤ xs.length → Pv i σ H → SqT K H a xs)
    (hs : ∀ i x σ H T, xs[i]? = some x → Pv i σ H → H T = none → g (.ref T) σ (upd H T (.tup [.int (i : Nat), x])) fun σ2 H2 => tb { D with nx := Pv (i + 1), ct := Pv (i + 1), bk := D.nx } σ2 H2) (hd : ∀ σ H, Pv xs.length σ H → D.nx σ H) :
    ∃ W : Nat → Nat → L2.St → Hp → Prop, (∃ m, W 0 m σ H) ∧ ∀ i m σ H, W i m σ H →
      ((IteT K a).stop i H ∧ D.nx σ H) ∨ ((IteT K a).go i H ∧ ∃ N : L2.St → Hp → Prop, (∀ σ' H', N σ' H' → ∃ m', m' < m ∧ W (i + 1) m' σ' H') ∧ ∀ x H', (IteT K a).yld i H x H' → g x σ H' fun σ2 H2 => tb { D with nx := N, ct := N, bk := D.nx } σ2 H2) := by
  refine ⟨fun i m σ H => m = xs.length - i ∧ i ≤ xs.length ∧ Pv i σ H, ⟨xs.length, by simp, Nat.zero_le _, h0⟩, ?_⟩
  rintro i m σ H ⟨rfl, hi, p⟩
  have q := hl i σ H hi p
  by_cases hlt : i < xs.length
  · refine .inr ⟨⟨xs, xs[i], q, by simp [hlt]⟩, Pv (i + 1), fun σ' H' p' => ⟨xs.length - (i + 1), by omega, rfl, hlt, p'⟩, fun v H' y => ?_⟩
    obtain ⟨T, x, rfl, nT, rfl, hx⟩ := y
    exact hs i x σ H T (hx xs q) p nT
  · have e : i = xs.length := by omega
    subst e
    exact .inl ⟨⟨xs, q, rfl⟩, hd σ H p⟩
/-- [.. for c in text] -/
theorem lc_text {z : Str} {g : TG} {tt : TT} {te : TE} {vs : List Nat} {σ : L2.St} {H1 : Hp} {D : Addr} {Qd : Hp → Prop} (Pv : Nat → Hp → Prop) (h0 : Pv 0 (upd H1 D (.lst [])))
    (hs : ∀ i c H, z.cps[i]? = some c → Pv i H → g (.str ⟨#[c]⟩) (wipe σ vs) H fun σ2 H2 => wipe σ2 vs = wipe σ vs ∧ tt σ2 H2 fun b H3 =>
      if b = true then te σ2 H3 fun y H4 => ∃ acc, H4 D = some (.lst acc) ∧ acc.length < sizeLine ∧ Pv (i + 1) (upd H4 D (.lst (acc ++ [y]))) else Pv (i + 1) H3) (hd : ∀ H, Pv z.cps.size H → Qd H) :
    ∃ W : Nat → Nat → Hp → Prop, (∃ m, W 0 m (upd H1 D (.lst []))) ∧ ∀ i m H, W i m H →
      ((Its z).stop i H ∧ Qd H) ∨ ((Its z).go i H ∧ ∃ Nx : Hp → Prop, (∀ H', Nx H' → ∃ m', m' < m ∧ W (i + 1) m' H') ∧ ∀ x H', (Its z).yld i H x H' → g x (wipe σ vs) H' fun σ2 H2 => wipe σ2 vs = wipe σ vs ∧ tt σ2 H2 fun b H3 =>
        if b = true then te σ2 H3 fun y H4 => ∃ acc, H4 D = some (.lst acc) ∧ acc.length < sizeLine ∧ Nx (upd H4 D (.lst (acc ++ [y]))) else Nx H3) := by
  refine ⟨fun i m H => m = z.cps.size - i ∧ i ≤ z.cps.size ∧ Pv i H, ⟨z.cps.size, by simp, Nat.zero_le _, h0⟩, ?_⟩
  rintro i m H ⟨rfl, hi, p⟩
  by_cases hlt : i < z.cps.size
  · refine .inr ⟨hlt, Pv (i + 1), fun H' p' => ⟨z.cps.size - (i + 1), by omega, rfl, hlt, p'⟩, fun x H' y => ?_⟩
    obtain ⟨rfl, c, hc, rfl⟩ := y
    exact hs i c _ hc p
  · have e : i = z.cps.size := by omega
    subst e
    exact .inl ⟨Nat.le_refl _, hd H p⟩
/-- a sign from a to z -/
def letB (c : Nat) : Bool := if (!decide ([c] < [97])) = true then !decide ([122] < [c]) else false
def nameB (z : Str) : Bool := decide (1 ≤ z.length) && decide (z.length ≤ 8) && (z.cps.toList.map letB).all id
abbrev oddTys : List String := ["NoneType", "bool", "int", "list", "tuple", "dict"]
/-- any value, and whether it is a name -/
inductive NV (K : PySem.W.Frag) (H : Hp) : V → Bool → Prop
  | str (z : Str) : z.length ≤ 1000000 → NV K H (.str z) (nameB z)
  | other {v : V} {T : String} : TyX K H v (.type T) → T ∈ oddTys → NV K H v false
def spName (K : PySem.W.Frag) : Sp := fun vs H Q _ => ∃ (v : V) (b : Bool), vs = [v] ∧ NV K H v b ∧ ∀ H', Same H H' → Q (.bl b) H'
theorem len_codes (z : Str) : z.length = z.cps.size := rfl
section
variable {P : Program} {w : World} {K : PySem.W.Frag} {mg : Str → Option Value} {base : Heap}
abbrev sName : Stmt := top 10
theorem scName : FnScope ["value", "letter"] ["value"] (defScope sName) := ⟨rfl, rfl, rfl, by decide +kernel, rfl, by decide +kernel, by decide +kernel⟩
theorem ok_name {f : Addr} {fd : FuncData} (F : Fun K "is_name" "is_name" sName f fd) (m_isinstance : mg "isinstance" = none) (m_str : mg "str" = none) (m_len : mg "len" = none) (m_all : mg "all" = none) {tM : Tok} (mM : mg "MOST_LETTERS" = some (.int 8 tM)) :
    FnOk P w K mg base CX0 1 f fd ["value"] (spName K) := by
  refine F.ok scName (fun vs H Q E h => ?_) (fun cdv A outer s H vs Q E hr h => ?_)
  · obtain ⟨v, b, rfl, _⟩ := h
    rfl
  · obtain ⟨v, b, rfl, hv, q⟩ := h
    refine ⟨_, (pss_cons (ps_if (PW.pt (pw_or (pt_not (pt_val (pe_callB call_isi (by rfl) m_isinstance (by decide +kernel) (pa_cons (pv 0) (pa_cons (pe_bltn (v := .ty "str") (by rfl) m_str (by decide +kernel) rfl) pa_nil))))) (pw_or1 (pt_not (pt_chain op_le op_le pe_int (pe_callB call_len_str (by rfl) m_len PySem.boot_len (pa_cons (pv 0) pa_nil)) (pe_glob (v := .int 8) rfl mM ⟨_, rfl⟩))))))
       (pss_one (ps_ret pe_bl))
       pss_nil)
       (pss_one (ps_ret (pe_callB (cr_all rfl) (by rfl) m_all (by decide +kernel) (pa_cons (pe_lc (own := [("letter", 1)]) (g := gName 1) (tt := tYes) rfl scName.nd (pi_str (pv 0)) (blkOk_by (N := ["value", "letter"]) (sc := defScope sName) (by decide +kernel)) (fun _ _ _ _ _ => pg_name (i := 1) scName.nd rfl (Or.inl rfl)) (fun _ _ _ _ _ => pts_nil) (fun _ _ _ _ _ => (pe_chain op_le_str op_le_str pe_str (pv 1) pe_str))) pa_nil))))), ?_⟩
    cases hv with
    | @other _ T ty hT =>
      have kt : PySem.W.kitOne K (.type T) (.type "str") = some false := by
        simp only [oddTys, List.mem_cons, List.mem_nil_iff, or_false] at hT
        rcases hT with rfl | rfl | rfl | rfl | rfl | rfl <;> exact kit_ty (by decide +kernel)
      exact ⟨_, rfl, _, _, _, _, _, rfl, .ty _, ty, kt, _, rfl, iteT (iteT (q H (Same.refl H)))⟩
    | str z hz =>
      have kt : PySem.W.kitOne K (.type "str") (.type "str") = some true := kit_ty (by decide +kernel)
      have hz2 : z.length ≤ sizeLine := by
        rw [sizeLine_eq]
        omega
      refine ⟨_, rfl, _, _, _, _, _, rfl, .ty _, .base (.str z), kt, _, rfl, iteF ?_⟩
      refine ⟨_, rfl, z, rfl, hz2, _, _, rfl, rfl, _, rfl, ?_⟩
      refine ite2 (fun h1 => ?_) (fun h1 => ?_)
      · have h1' : (1 : Int) ≤ (z.length : Int) := of_decide_eq_true h1
        refine ⟨_, _, rfl, rfl, _, rfl, ?_⟩
        by_cases h2 : (z.length : Int) ≤ 8
        · refine iteNS h2 ?_
          refine ⟨_, rfl, z, rfl, fun D nD => lc_text (fun i H' => Same H H' ∧ H' D = some (.lst (((z.cps.toList.take i).map letB).map V.bl))) ⟨same_upd nD, upd_same⟩ ?_ ?_⟩
          · rintro i c H1 hc ⟨s1, e1⟩
            have hi : i < z.cps.size := (Array.getElem?_eq_some_iff.mp hc).1
            refine ⟨rfl, ?_⟩
            dsimp only [tYes]
            rw [if_pos rfl]
            have fin : ∀ y, y = V.bl (letB c) → ∃ acc, H1 D = some (.lst acc) ∧ acc.length < sizeLine ∧ Same H (upd H1 D (.lst (acc ++ [y]))) ∧ (upd H1 D (.lst (acc ++ [y]))) D = some (.lst (((z.cps.toList.take (i + 1)).map letB).map V.bl)) := by
              rintro y rfl
              refine ⟨_, e1, ?_, fun b o e => ?_, ?_⟩
              · rw [List.length_map, List.length_map, List.length_take, sizeLine_eq]
                have z1 : z.cps.toList.length = z.cps.size := Array.length_toList
                have z2 : z.length = z.cps.size := rfl
                omega
              · rw [upd_ne (ne_of_none e nD)]
                exact s1 b o e
              · have e3 : z.cps.toList[i]? = some c := by rw [Array.getElem?_toList]; exact hc
                rw [upd_same, List.take_add_one, e3, List.map_append, List.map_append]
                rfl
            refine ⟨_, rfl, _, _, rfl, rfl, _, rfl, ?_⟩
            by_cases h3 : (!decide ([c] < [97])) = true
            · refine (if_pos h3).mpr ?_
              refine ⟨_, _, rfl, rfl, fin _ ?_⟩
              unfold letB
              rw [if_pos h3]
              rfl
            · refine (if_neg h3).mpr ?_
              refine fin _ ?_
              unfold letB
              rw [if_neg h3]
          · rintro H1 ⟨s1, e1⟩
            have e2 : z.cps.toList.take z.cps.size = z.cps.toList := by
              rw [List.take_of_length_le]
              rw [Array.length_toList]
              exact Nat.le_refl _
            rw [e2] at e1
            refine ⟨D, _, rfl, .inl (.inl e1), ?_⟩
            have e3 : (z.cps.toList.map letB).all id = nameB z := by
              unfold nameB
              rw [decide_eq_true (show 1 ≤ z.length by omega), decide_eq_true (show z.length ≤ 8 by omega)]
              rfl
            rw [e3]
            exact q H1 s1
        · have e3 : nameB z = false := by
            unfold nameB
            rw [decide_eq_false (show ¬ z.length ≤ 8 by omega), Bool.and_false, Bool.false_and]
          have z := q H (Same.refl H)
          rw [e3] at z
          rw [decide_eq_false h2]
          exact iteT z
      · have h1' : ¬ (1 : Int) ≤ (z.length : Int) := fun e => h1 (decide_eq_true e)
        have e3 : nameB z = false := by
          unfold nameB
          rw [decide_eq_false (show ¬ 1 ≤ z.length by omega), Bool.false_and, Bool.false_and]
        have y := q H (Same.refl H)
        rw [e3] at y
        exact ⟨_, rfl, iteT y⟩
end
end Rw

/-! R5 -/
/-! ### is_step -/
namespace Rw
open PySem PySem.Spec PyProof.Rows L2
theorem tyx_tup {K : PySem.W.Frag} {H : Hp} {p : Addr} {xs : List V} (h : SqT K H p xs) : TyX K H (.ref p) (.type "tuple") := by
  rcases h with (h | ⟨o, h⟩) | ⟨o, its, n, hl, hc, r⟩
  · exact .base (.tup h)
  · exact .fTuple h
  · exact .kTuple hl hc
abbrev noTup : List String := ["NoneType", "bool", "int", "list", "str", "dict"]
/-- any value, and whether it is a step -/
inductive SV (K : PySem.W.Frag) (d : Addr) (H : Hp) : V → Option (Str × Str) → Prop
  | good {p : Addr} {w n : Str} {u : Value} : SqT K H p [.str w, .str n] → PySem.W.nsIn K d w = some (some u) → n.length ≤ 1000000 → nameB n = true → SV K d H (.ref p) (some (w, n))
  | name {p : Addr} {w : Str} {b : V} {u : Value} : SqT K H p [.str w, b] → PySem.W.nsIn K d w = some (some u) → NV K H b false → SV K d H (.ref p) none
  | word {p : Addr} {w : Str} {b : V} : SqT K H p [.str w, b] → PySem.W.nsIn K d w = some none → SV K d H (.ref p) none
  | first {p : Addr} {a b : V} {T : String} : SqT K H p [a, b] → TyX K H a (.type T) → T ∈ oddTys → SV K d H (.ref p) none
  | len {p : Addr} {xs : List V} : SqT K H p xs → xs.length ≠ 2 → SV K d H (.ref p) none
  | other {v : V} {T : String} : TyX K H v (.type T) → T ∈ noTup → SV K d H v none
def spStep (K : PySem.W.Frag) (d : Addr) : Sp := fun vs H Q _ => ∃ (v : V) (r : Option (Str × Str)), vs = [v] ∧ SV K d H v r ∧ ∀ H', Same H H' → Q (.bl r.isSome) H'
/-- a def as it is called -/
def Called (K : PySem.W.Frag) (mg : Str → Option Value) (x : Str) (ps : List Str) (f : Addr) (fd : FuncData) : Prop := mg x = some (.ref f) ∧ PySem.W.keepIn K (.ref f) = true ∧ Binds K fd ps []
section
variable {P : Program} {w : World} {K : PySem.W.Frag} {mg : Str → Option Value} {base : Heap}
abbrev sStep : Stmt := top 11
theorem scStep : FnScope ["value"] ["value"] (defScope sStep) := ⟨rfl, rfl, rfl, by decide +kernel, rfl, by decide +kernel, by decide +kernel⟩
theorem ok_step {f fN d : Addr} {fd fdN : FuncData} {es : Array DictEntry} {n : Nat} (F : Fun K "is_step" "is_step" sStep f fd) (GN : FnOk P w K mg base CX0 1 fN fdN ["value"] (spName K)) (TN : Called K mg "is_name" ["value"] fN fdN)
    (m_isinstance : mg "isinstance" = none) (m_str : mg "str" = none) (m_tuple : mg "tuple" = none) (m_len : mg "len" = none) (gK : mg "STEP_KINDS" = some (.ref d)) (DK : KDict K w d es n) :
    FnOk P w K mg base CX0 2 f fd ["value"] (spStep K d) := by
  refine F.ok scStep (fun vs H Q E h => ?_) (fun cdv A outer s H vs Q E hr h => ?_)
  · obtain ⟨v, b, rfl, _⟩ := h
    rfl
  · obtain ⟨v, r, rfl, hv, q⟩ := h
    refine ⟨_, (pss_cons (ps_if (PW.pt (pw_or (pt_not (pt_val (pe_callB call_isi (by rfl) m_isinstance (by decide +kernel) (pa_cons (pv 0) (pa_cons (pe_bltn (v := .ty "tuple") (by rfl) m_tuple (by decide +kernel) rfl) pa_nil))))) (pw_or1 (pt_cmpR op_ne (pe_callB call_len_seq (by rfl) m_len PySem.boot_len (pa_cons (pv 0) pa_nil)) pe_int (nomark _)))))
       (pss_one (ps_ret pe_bl))
       pss_nil)
       (pss_one (ps_ret (pe_and (pe_callB call_isi (by rfl) m_isinstance (by decide +kernel) (pa_cons (pe_ix ix_tup (pv 0) pe_int (fun _ _ => rfl)) (pa_cons (pe_bltn (v := .ty "str") (by rfl) m_str (by decide +kernel) rfl) pa_nil))) (pe_and (pe_cmpR (op_in_kd DK) (pe_ix ix_tup (pv 0) pe_int (fun _ _ => rfl)) (pe_glob (v := .ref d) rfl gK rfl) (by rfl)) (pe_one (pe_call GN (hr.mono (by decide)) rfl TN.1 TN.2.1 TN.2.2 .nil pass0 (pa_cons (pe_ix ix_tup (pv 0) pe_int (fun _ _ => rfl)) pa_nil)))))))), ?_⟩
    have tup : PySem.W.kitOne K (.type "tuple") (.type "tuple") = some true := kit_ty (by decide +kernel)
    have str1 : PySem.W.kitOne K (.type "str") (.type "str") = some true := kit_ty (by decide +kernel)
    cases hv with
    | @other _ T ty hT =>
      have kt : PySem.W.kitOne K (.type T) (.type "tuple") = some false := by
        simp only [noTup, List.mem_cons, List.mem_nil_iff, or_false] at hT
        rcases hT with rfl | rfl | rfl | rfl | rfl | rfl <;> exact kit_ty (by decide +kernel)
      exact ⟨_, rfl, _, _, _, _, _, rfl, .ty _, ty, kt, _, rfl, iteT (iteT (q H (Same.refl H)))⟩
    | @len p xs hs hl =>
      refine ⟨_, rfl, _, _, _, _, _, rfl, .ty _, tyx_tup hs, tup, _, rfl, iteF ?_⟩
      refine ⟨_, rfl, p, xs, rfl, .inr hs, rfl, _, rfl, ?_⟩
      have e : (!decide (V.int (xs.length : Nat) = V.int 2)) = true := by
        rw [decide_eq_false]
        · rfl
        · intro z
          have z2 := V.int.inj z
          omega
      rw [e]
      exact iteT (q H (Same.refl H))
    | @first p a b T hs ty hT =>
      have kt : PySem.W.kitOne K (.type T) (.type "str") = some false := by
        simp only [oddTys, List.mem_cons, List.mem_nil_iff, or_false] at hT
        rcases hT with rfl | rfl | rfl | rfl | rfl | rfl <;> exact kit_ty (by decide +kernel)
      refine ⟨_, rfl, _, _, _, _, _, rfl, .ty _, tyx_tup hs, tup, _, rfl, iteF ?_⟩
      refine ⟨_, rfl, p, _, rfl, .inr hs, rfl, _, rfl, iteF ?_⟩
      refine ⟨_, rfl, p, _, _, _, rfl, rfl, hs, rfl, _, _, _, _, _, rfl, .ty _, ty, kt, _, rfl, ?_⟩
      exact iteF (q H (Same.refl H))
    | @word p wd b hs hw =>
      refine ⟨_, rfl, _, _, _, _, _, rfl, .ty _, tyx_tup hs, tup, _, rfl, iteF ?_⟩
      refine ⟨_, rfl, p, _, rfl, .inr hs, rfl, _, rfl, iteF ?_⟩
      refine ⟨_, rfl, p, _, _, _, rfl, rfl, hs, rfl, _, _, _, _, _, rfl, .ty _, .base (.str _), str1, _, rfl, iteT ?_⟩
      refine ⟨_, rfl, p, _, _, _, rfl, rfl, hs, rfl, _, _, rfl, rfl, hw, _, rfl, ?_⟩
      exact iteF (q H (Same.refl H))
    | @name p wd b u hs hw hb =>
      refine ⟨_, rfl, _, _, _, _, _, rfl, .ty _, tyx_tup hs, tup, _, rfl, iteF ?_⟩
      refine ⟨_, rfl, p, _, rfl, .inr hs, rfl, _, rfl, iteF ?_⟩
      refine ⟨_, rfl, p, _, _, _, rfl, rfl, hs, rfl, _, _, _, _, _, rfl, .ty _, .base (.str _), str1, _, rfl, iteT ?_⟩
      refine ⟨_, rfl, p, _, _, _, rfl, rfl, hs, rfl, _, _, rfl, rfl, hw, _, rfl, iteT ?_⟩
      exact ⟨_, rfl, p, _, _, _, rfl, rfl, hs, rfl, _, _, rfl, hb, q⟩
    | @good p wd nm u hs hw hl hb =>
      refine ⟨_, rfl, _, _, _, _, _, rfl, .ty _, tyx_tup hs, tup, _, rfl, iteF ?_⟩
      refine ⟨_, rfl, p, _, rfl, .inr hs, rfl, _, rfl, iteF ?_⟩
      refine ⟨_, rfl, p, _, _, _, rfl, rfl, hs, rfl, _, _, _, _, _, rfl, .ty _, .base (.str _), str1, _, rfl, iteT ?_⟩
      refine ⟨_, rfl, p, _, _, _, rfl, rfl, hs, rfl, _, _, rfl, rfl, hw, _, rfl, iteT ?_⟩
      refine ⟨_, rfl, p, _, _, _, rfl, rfl, hs, rfl, _, _, rfl, .str nm hl, ?_⟩
      rw [hb]
      exact q
end
end Rw

/-! R6 -/
/-! ### what is never come to; not in a tuple of data -/
namespace L2
open PySem PySem.Spec PyProof.Rows
def tDead : TE := fun _ _ _ => False
def sDead : TS := fun _ _ _ => False
theorem pe_dead {X : Cx} {e : Expr} : PE X e tDead := ⟨fun _ _ _ _ _ _ h => False.elim h⟩
theorem ps_dead {X : Cx} {st : Stmt} : PS X st sDead := ⟨fun _ _ _ _ _ _ h => False.elim h⟩
theorem pss_dead {X : Cx} {st : List Stmt} : PSs X st sDead := ⟨fun _ _ _ _ _ _ h => False.elim h⟩
def rNotInTD (K : PySem.W.Frag) : R2 := fun x y H Q => ∃ d ds, Dp K H x d ∧ Dp K H y (.tuple ds) ∧ SeqAt.shaped d = true ∧ SeqAt.shaped (.tuple ds) = true ∧ Q (.bl (!ds.any fun z => PyData.eqv z d)) H
theorem op_notInTD {X : Cx} (hu : X.A.units + 65 < cLine) : OpR X (compareOp .NotIn) (rNotInTD X.K) := by
  intro pins s σ H x y v u Q I rx ry h
  obtain ⟨d, ds, hd, he, sd, se, q⟩ := h
  obtain ⟨as, r1⟩ := Dp.reads I d x v hd rx
  obtain ⟨bs, r2⟩ := Dp.reads I (.tuple ds) y u he ry
  exact SeqAt.notIn_tuple_reads r2 r1 (SeqAt.canLay_of_shaped se) (SeqAt.canLay_of_shaped sd) (room_in_shaped sd hu) ⟨.bl _, H, I, rfl, q⟩
theorem Room.units65 {k : Nat} {A : Around} (r : Room k A) : A.units + 65 < cLine := by have := r.un; omega
theorem Same.tupS {K : PySem.W.Frag} {H H' : Hp} {a : Addr} {xs : List V} (e : Same H H') (h : SqT K H a xs) : SqT K H' a xs := h.ext e
end L2
/-! ### steps, and the locks behind them -/
namespace Rw
open PySem PySem.Spec PyProof.Rows L2
abbrev Step := Str × Str
inductive All2 {α β : Type} (R : α → β → Prop) : List α → List β → Prop
  | nil : All2 R [] []
  | cons {a : α} {b : β} {as : List α} {bs : List β} : R a b → All2 R as bs → All2 R (a :: as) (b :: bs)
theorem All2.length {α β : Type} {R : α → β → Prop} {as : List α} {bs : List β} (h : All2 R as bs) : as.length = bs.length := by
  induction h with
  | nil => rfl
  | cons _ _ ih => exact congrArg (· + 1) ih
theorem All2.get {α β : Type} {R : α → β → Prop} {as : List α} {bs : List β} (h : All2 R as bs) : ∀ {i : Nat} {a : α}, as[i]? = some a → ∃ b, bs[i]? = some b ∧ R a b := by
  induction h with
  | nil => intro i a e; cases e
  | cons r _ ih =>
    intro i a e
    cases i with
    | zero => cases e; exact ⟨_, rfl, r⟩
    | succ i => exact ih e
theorem All2.mono {α β : Type} {R S : α → β → Prop} (f : ∀ a b, R a b → S a b) {as : List α} {bs : List β} (h : All2 R as bs) : All2 S as bs := by
  induction h with
  | nil => exact .nil
  | cons r _ ih => exact .cons (f _ _ r) ih
theorem All2.append {α β : Type} {R : α → β → Prop} {as as' : List α} {bs bs' : List β} (h : All2 R as bs) (h' : All2 R as' bs') : All2 R (as ++ as') (bs ++ bs') := by
  induction h with
  | nil => exact h'
  | cons r _ ih => exact .cons r ih
theorem All2.drop {α β : Type} {R : α → β → Prop} {as : List α} {bs : List β} (h : All2 R as bs) : ∀ n, All2 R (as.drop n) (bs.drop n) := by
  induction h with
  | nil => intro n; simp only [List.drop_nil]; exact .nil
  | cons r t ih =>
    intro n
    cases n with
    | zero => exact .cons r t
    | succ n => exact ih n
theorem All2.take {α β : Type} {R : α → β → Prop} {as : List α} {bs : List β} (h : All2 R as bs) : ∀ n, All2 R (as.take n) (bs.take n) := by
  induction h with
  | nil => intro n; simp only [List.take_nil]; exact .nil
  | cons r t ih =>
    intro n
    cases n with
    | zero => exact .nil
    | succ n => exact .cons r (ih n)
def StepAt (K : PySem.W.Frag) (H : Hp) (v : V) (s : Step) : Prop := ∃ p, v = .ref p ∧ SqT K H p [.str s.1, .str s.2]
def StepsAt (K : PySem.W.Frag) (H : Hp) : List V → List Step → Prop := All2 (StepAt K H)
def TxtT (K : PySem.W.Frag) (H : Hp) (v : V) (ns : List Str) : Prop := ∃ p, v = .ref p ∧ SqT K H p (ns.map V.str)
theorem StepAt.same {K : PySem.W.Frag} {H H' : Hp} (e : Same H H') {v : V} {s : Step} (h : StepAt K H v s) : StepAt K H' v s := let ⟨p, q, r⟩ := h; ⟨p, q, e.tupS r⟩
theorem StepsAt.same {K : PySem.W.Frag} {H H' : Hp} (e : Same H H') {vs : List V} {ss : List Step} (h : StepsAt K H vs ss) : StepsAt K H' vs ss := by
  exact h.mono fun _ _ a => a.same e
theorem TxtT.same {K : PySem.W.Frag} {H H' : Hp} (e : Same H H') {v : V} {s : List Str} (h : TxtT K H v s) : TxtT K H' v s := let ⟨p, q, r⟩ := h; ⟨p, q, e.tupS r⟩
/-- no word of a test or choose -/
def plainW (w : Str) : Prop := w ≠ "test" ∧ w ≠ "choose" ∧ w ≠ "piece"
def behind (s : Step) (h : List Str) : List Str := if s.1 = "take" then h ++ [s.2] else if s.1 = "give" then h.dropLast else h
theorem dec_str {a b : Str} : decide (V.str a = V.str b) = decide (a = b) := by
  by_cases h : a = b
  · rw [h, decide_eq_true rfl, decide_eq_true rfl]
  · rw [decide_eq_false h, decide_eq_false (fun e => h (V.str.inj e))]
theorem sIx_m1 (n d : Nat) : HT.sIx n d (some (-1)) = n - 1 := by
  show (if (-1 : Int) < 0 then ((-1 : Int) + (n : Int)).toNat else min (-1 : Int).toNat n) = n - 1
  rw [if_pos (by decide)]
  omega
theorem cut_m1 (xs : List V) : cutV xs none (some (-1)) = xs.dropLast := by
  show (xs.drop (HT.sIx xs.length 0 none)).take (HT.sIx xs.length xs.length (some (-1)) - HT.sIx xs.length 0 none) = xs.dropLast
  rw [sIx_m1]
  show (xs.drop 0).take (xs.length - 1 - 0) = _
  rw [List.drop_zero, Nat.sub_zero, List.dropLast_eq_take]
def spBr (K : PySem.W.Frag) : Sp := fun vs H Q _ => ∃ (v : V) (s : Step), vs = [v] ∧ StepAt K H v s ∧ plainW s.1 ∧ ∀ H' p, Same H H' → SqT K H' p [] → Q (.ref p) H'
def spBeh (K : PySem.W.Frag) : Sp := fun vs H Q _ => ∃ (v h : V) (s : Step) (ns : List Str), vs = [v, h] ∧ StepAt K H v s ∧ TxtT K H h ns ∧ ns.length ≤ 1000 ∧ ∀ H' u, Same H H' → TxtT K H' u (behind s ns) → Q u H'
section
variable {P : Program} {w : World} {K : PySem.W.Frag} {mg : Str → Option Value} {base : Heap}
abbrev sBr : Stmt := top 12
theorem scBr : FnScope ["item"] ["item"] (defScope sBr) := ⟨rfl, rfl, rfl, by decide +kernel, rfl, by decide +kernel, by decide +kernel⟩
theorem ok_br {f : Addr} {fd : FuncData} (F : Fun K "branches" "branches" sBr f fd) : FnOk P w K mg base CX0 1 f fd ["item"] (spBr K) := by
  refine F.ok scBr (fun vs H Q E h => ?_) (fun cdv A outer s H vs Q E hr h => ?_)
  · obtain ⟨v, s, rfl, _⟩ := h
    rfl
  · obtain ⟨v, st, rfl, ⟨p, rfl, hp⟩, ⟨n1, n2, _⟩, q⟩ := h
    refine ⟨_, (pss_cons (ps_if (pt_cmpR op_eq (pe_ix ix_tup (pv 0) pe_int (fun _ _ => rfl)) pe_str (nomark _))
       (pss_one (ps_ret (pe_slice sl_tupA (pv 0) (po_some pe_int) po_none)))
       pss_nil)
       (pss_cons (ps_if (pt_cmpR op_eq (pe_ix ix_tup (pv 0) pe_int (fun _ _ => rfl)) pe_str (nomark _))
       (pss_one (ps_ret (pe_slice sl_tupA (pv 0) (po_some pe_int) po_none)))
       pss_nil)
       (pss_one (ps_ret (pe_tup pa_nil))))), ?_⟩
    refine ⟨_, rfl, p, _, _, _, rfl, rfl, hp, rfl, rfl, _, rfl, ?_⟩
    rw [dec_str, decide_eq_false n1]
    refine iteF ?_
    refine ⟨_, rfl, p, _, _, _, rfl, rfl, hp, rfl, rfl, _, rfl, ?_⟩
    rw [dec_str, decide_eq_false n2]
    refine iteF ?_
    exact ⟨Nat.zero_le _, fun t nt => q _ t (same_upd nt) (SqT.of upd_same)⟩
abbrev sBeh : Stmt := top 15
theorem scBeh : FnScope ["item", "held"] ["item", "held"] (defScope sBeh) := ⟨rfl, rfl, rfl, by decide +kernel, rfl, by decide +kernel, by decide +kernel⟩
theorem ok_beh {f : Addr} {fd : FuncData} (F : Fun K "locks_behind" "locks_behind" sBeh f fd) : FnOk P w K mg base CX0 1 f fd ["item", "held"] (spBeh K) := by
  refine F.ok scBeh (fun vs H Q E h => ?_) (fun cdv A outer s H vs Q E hr h => ?_)
  · obtain ⟨v, h', s, ns, rfl, _⟩ := h
    rfl
  · obtain ⟨v, h', st, ns, rfl, ⟨p, rfl, hp⟩, ⟨t, rfl, ht⟩, hz, q⟩ := h
    refine ⟨_, (pss_cons (ps_if (pt_cmpR op_eq (pe_ix ix_tup (pv 0) pe_int (fun _ _ => rfl)) pe_str (nomark _))
       (pss_one (ps_ret (pe_op op_catA (pv 1) (pe_tup (pa_cons (pe_ix ix_tup (pv 0) pe_int (fun _ _ => rfl)) pa_nil)))))
       pss_nil)
       (pss_cons (ps_if (pt_cmpR op_eq (pe_ix ix_tup (pv 0) pe_int (fun _ _ => rfl)) pe_str (nomark _))
       (pss_one (ps_ret (pe_slice sl_tupA (pv 1) po_none (po_some (pe_un un_neg pe_int)))))
       pss_nil)
       (pss_one (ps_ret (pv 1))))), ?_⟩
    refine ⟨_, rfl, p, _, _, _, rfl, rfl, hp, rfl, rfl, _, rfl, ?_⟩
    rw [dec_str]
    by_cases h1 : st.1 = "take"
    · rw [decide_eq_true h1]
      refine iteT ?_
      have e : behind st ns = ns ++ [st.2] := if_pos h1
      rw [e] at q
      refine ⟨_, rfl, _, rfl, p, _, _, _, rfl, rfl, hp, rfl, by show 1 ≤ sizeLine; decide, fun y ny => ?_⟩
      have s1 := same_upd (o := HO.tup [V.str st.2]) ny
      have hy : SqT K (upd H y (.tup [V.str st.2])) y [V.str st.2] := SqT.of upd_same
      refine ⟨t, y, _, _, rfl, rfl, s1.tupS ht, hy, ?_, fun en => ?_, fun _ z => absurd z (List.cons_ne_nil _ _), fun _ _ u nu => ?_⟩
      · rw [List.length_map, sizeLine_eq]
        show ns.length + 1 ≤ _
        omega
      · have en2 : ns = [] := List.map_eq_nil_iff.mp en
        rw [en2] at q
        exact q _ _ s1 ⟨y, rfl, hy⟩
      · refine q _ _ (s1.trans (same_upd nu)) ⟨u, rfl, SqT.of ?_⟩
        rw [upd_same, List.map_append]
        rfl
    · rw [decide_eq_false h1]
      refine iteF ?_
      refine ⟨_, rfl, p, _, _, _, rfl, rfl, hp, rfl, rfl, _, rfl, ?_⟩
      rw [dec_str]
      by_cases h2 : st.1 = "give"
      · rw [decide_eq_true h2]
        refine iteT ?_
        have e : behind st ns = ns.dropLast := by
          unfold behind
          rw [if_neg h1, if_pos h2]
        rw [e] at q
        refine ⟨_, rfl, _, rfl, _, rfl, ?_⟩
        refine ⟨t, _, rfl, ht, fun c => ?_, fun c u nu => ?_⟩
        · have e1 : HT.sIx (ns.map V.str).length (ns.map V.str).length (some (-1)) = ns.length - 1 := by rw [List.length_map]; exact sIx_m1 _ _
          have c2 := c.2
          rw [e1, List.length_map] at c2
          have e2 : ns = [] := List.eq_nil_of_length_eq_zero (by omega)
          rw [e2] at q ht
          exact q H _ (Same.refl H) ⟨t, rfl, ht⟩
        · refine q _ _ (same_upd nu) ⟨u, rfl, SqT.of ?_⟩
          rw [upd_same, cut_m1, List.map_dropLast]
      · rw [decide_eq_false h2]
        refine iteF ?_
        have e : behind st ns = ns := by
          unfold behind
          rw [if_neg h1, if_neg h2]
        rw [e] at q
        exact ⟨_, rfl, q H _ (Same.refl H) ⟨t, rfl, ht⟩⟩
end
end Rw

/-! R7 -/
/-! ### the locks along the steps -/
namespace Rw
open PySem PySem.Spec PyProof.Rows L2
def after (ss : List Step) (h : List Str) : List Str := ss.foldl (fun h s => behind s h) h
def helds : List Step → List Str → List (List Str)
  | [], _ => []
  | s :: ss, h => h :: helds ss (behind s h)
theorem after_snoc (ss : List Step) (s : Step) (h : List Str) : after (ss ++ [s]) h = behind s (after ss h) := by
  unfold after
  rw [List.foldl_append]
  rfl
theorem helds_snoc : ∀ (ss : List Step) (s : Step) (h : List Str), helds (ss ++ [s]) h = helds ss h ++ [after ss h]
  | [], _, _ => rfl
  | x :: ss, s, h => by
    show h :: helds (ss ++ [s]) (behind x h) = h :: (helds ss (behind x h) ++ [after ss (behind x h)])
    rw [helds_snoc ss s]
theorem behind_len (s : Step) (h : List Str) : (behind s h).length ≤ h.length + 1 := by
  unfold behind
  split
  · rw [List.length_append]; exact Nat.le_refl _
  · split
    · rw [List.length_dropLast]; omega
    · omega
theorem after_len : ∀ (ss : List Step) (h : List Str), (after ss h).length ≤ h.length + ss.length
  | [], _ => Nat.le_refl _
  | s :: ss, h => by
    have h1 := after_len ss (behind s h)
    have h2 := behind_len s h
    show (after ss (behind s h)).length ≤ h.length + (ss.length + 1)
    omega
theorem sqT_updL {K : PySem.W.Frag} {H : Hp} {o a : Addr} {ys xs : List V} {u : HO} (ho : H o = some (.lst ys)) (h : SqT K H a xs) : SqT K (upd H o u) a xs := by
  rcases h with (h | ⟨ob, h⟩) | h
  · exact .inl (.inl (by rw [upd_ne (fun e => by rw [e, ho] at h; cases h)]; exact h))
  · exact .inl (.inr ⟨ob, by rw [upd_ne (fun e => by rw [e, ho] at h; cases h)]; exact h⟩)
  · exact .inr h
theorem TxtT.updL {K : PySem.W.Frag} {H : Hp} {o : Addr} {ys : List V} {v : V} {ns : List Str} {u : HO} (ho : H o = some (.lst ys)) (h : TxtT K H v ns) : TxtT K (upd H o u) v ns := let ⟨p, e, q⟩ := h; ⟨p, e, sqT_updL ho q⟩
theorem same_updN {H H' : Hp} {o : Addr} {u : HO} (no : H o = none) (s : Same H H') : Same H (upd H' o u) := fun b z e => by
  rw [upd_ne (ne_of_none e no)]
  exact s b z e
theorem take_snoc {α : Type} {xs : List α} {i : Nat} {x : α} (h : xs[i]? = some x) : xs.take (i + 1) = xs.take i ++ [x] := by
  rw [List.take_add_one, h]
  rfl
def spHeld (K : PySem.W.Frag) : Sp := fun vs H Q _ => ∃ (a : Addr) (hv : V) (xs : List V) (ss : List Step) (h0 : List Str), vs = [.ref a, hv] ∧ SqT K H a xs ∧ StepsAt K H xs ss ∧ (∀ s ∈ ss, plainW s.1) ∧ TxtT K H hv h0 ∧ h0.length + ss.length ≤ 900 ∧
  ∀ H' p ys, Same H H' → H p = none → H' p = some (.lst ys) → All2 (TxtT K H') ys (helds ss h0) → Q (.ref p) H'
section
variable {P : Program} {w : World} {K : PySem.W.Frag} {mg : Str → Option Value} {base : Heap}
abbrev sHeld : Stmt := top 16
theorem scHeld : FnScope ["items", "around", "found", "held", "item", "inner"] ["items", "around"] (defScope sHeld) := ⟨rfl, rfl, rfl, by decide +kernel, rfl, by decide +kernel, by decide +kernel⟩
theorem ok_held {f fB fL : Addr} {fd fdB fdL : FuncData} (F : Fun K "held_along" "held_along" sHeld f fd) (GB : FnOk P w K mg base CX0 1 fB fdB ["item"] (spBr K)) (TB : Called K mg "branches" ["item"] fB fdB)
    (GL : FnOk P w K mg base CX0 1 fL fdL ["item", "held"] (spBeh K)) (TL : Called K mg "locks_behind" ["item", "held"] fL fdL) : FnOk P w K mg base CX0 2 f fd ["items", "around"] (spHeld K) := by
  refine F.ok scHeld (fun vs H Q E h => ?_) (fun cdv A outer s H vs Q E hr h => ?_)
  · obtain ⟨a, hv, xs, ss, h0, rfl, _⟩ := h
    rfl
  · obtain ⟨a, hv, xs, ss, h0, rfl, hx, hss, hp, hh, hz, q⟩ := h
    refine ⟨_, (pss_cons (ps_set (i := 2) scHeld.nd rfl (.inl rfl) (pe_lst pa_nil))
       (pss_cons (ps_set (i := 3) scHeld.nd rfl (.inl rfl) (pv 1))
       (pss_cons (ps_for PassesOwn.never rfl (pi_tup (pv 0)) (pg_name (i := 4) scHeld.nd rfl (.inl rfl))
       (pss_cons (ps_expr (pe_bm PySem.F.plainAttrs_list PySem.F.slot_list_append PySem.F.type_list_append mt_append (pv 2) (pa_cons (pv 3) pa_nil)))
       (pss_cons (ps_for PassesOwn.never rfl (pi_tup (pe_call GB (hr.mono (by decide)) rfl TB.1 TB.2.1 TB.2.2 .nil pass0 (pa_cons (pv 4) pa_nil))) (pg_name (i := 5) scHeld.nd rfl (.inl rfl))
       (pss_one ps_dead))
       (pss_one (ps_set (i := 3) scHeld.nd rfl (.inl rfl) (pe_call GL (hr.mono (by decide)) rfl TL.1 TL.2.1 TL.2.2 .nil pass0 (pa_cons (pv 4) (pa_cons (pv 3) pa_nil))))))))
       (pss_one (ps_ret (pv 2)))))), ?_⟩
    refine ⟨Nat.zero_le _, fun o no => ?_⟩
    have s1 : Same H (upd H o (.lst [])) := same_upd no
    have len := hss.length
    refine ⟨_, rfl, _, rfl, a, rfl, ⟨_, s1.tupS hx⟩, for_tup (xs := xs)
      (fun i σ H' => ∃ (ys : List V) (u : V) (v4 v5 : Option V), σ = [some (.ref a), some hv, some (.ref o), some u, v4, v5] ∧ Same H H' ∧ H' o = some (.lst ys) ∧ All2 (TxtT K H') ys (helds (ss.take i) h0) ∧ TxtT K H' u (after (ss.take i) h0))
      ⟨[], hv, none, none, rfl, s1, upd_same, .nil, hh.same s1⟩ ?_ ?_ ?_⟩
    · rintro i σ H' hi ⟨ys, u, v4, v5, rfl, sm, _⟩
      exact sm.tupS hx
    · rintro i x σ H' hxi ⟨ys, u, v4, v5, rfl, sm, ho, hy, hu⟩
      obtain ⟨st, hst, sa⟩ := hss.get hxi
      have pw := hp st (List.mem_of_getElem? hst)
      have hi : i < ss.length := (List.getElem?_eq_some_iff.mp hst).1
      have yl : ys.length = i := by
        rw [hy.length]
        have z : ∀ (ss : List Step) (h : List Str), (helds ss h).length = ss.length := by
          intro ss
          induction ss with
          | nil => intro h; rfl
          | cons s ss ih => intro h; exact congrArg (· + 1) (ih _)
        rw [z, List.length_take]
        omega
      -- found.append(held)
      refine ⟨_, rfl, .inl ⟨rfl, _, SqL.of ho⟩, _, rfl, o, _, _, rfl, rfl, ho, small1000 (by omega), ?_⟩
      have s2 : Same H (upd H' o (.lst (ys ++ [u]))) := same_updN no sm
      -- branches(item)
      refine ⟨_, rfl, _, _, rfl, sa.same s2, pw, fun H3 p3 s3 e3 => ?_⟩
      refine ⟨p3, rfl, ⟨_, e3⟩, for_tup (xs := []) (fun _ σ H' => σ = [some (.ref a), some hv, some (.ref o), some u, some x, v5] ∧ H' = H3) ⟨rfl, rfl⟩ ?_ ?_ ?_⟩
      · rintro _ _ _ _ ⟨_, rfl⟩
        exact e3
      · rintro _ _ _ _ h
        cases h
      · rintro _ _ ⟨rfl, rfl⟩
        have al := after_len (ss.take i) h0
        rw [List.length_take] at al
        refine ⟨_, rfl, _, rfl, _, _, st, _, rfl, sa.same (s2.trans s3), (hu.updL ho).same s3, by omega, fun H4 u4 s4 hu4 => ?_⟩
        refine ⟨ys ++ [u], u4, some x, v5, rfl, (s2.trans s3).trans s4, s4 _ _ (s3 _ _ upd_same), ?_, ?_⟩
        · rw [take_snoc hst, helds_snoc]
          exact ((hy.mono fun _ _ t => t.updL ho).append (.cons (hu.updL ho) .nil)).mono fun _ _ t => (t.same s3).same s4
        · rw [take_snoc hst, after_snoc]
          exact hu4
    · rintro σ H' ⟨ys, u, v4, v5, rfl, sm, ho, hy, hu⟩
      rw [len, List.take_length] at hy
      exact ⟨_, rfl, q H' o ys sm no ho hy⟩
end
end Rw

/-! R8 -/
/-! ### which step takes or gives wrongly -/
namespace Rw
open PySem PySem.Spec PyProof.Rows L2
def txtD (ns : List Str) : PyData := .tuple (ns.map PyData.str)
def stepD (s : Step) : PyData := .tuple [.str s.1, .str s.2]
theorem eqvAll_txt : ∀ as bs : List Str, PyData.eqvAll (as.map PyData.str) (bs.map PyData.str) = decide (as = bs)
  | [], [] => rfl
  | [], b :: bs => by rw [decide_eq_false (by simp)]; rfl
  | a :: as, [] => by rw [decide_eq_false (by simp)]; rfl
  | a :: as, b :: bs => by
    show (a == b && PyData.eqvAll (as.map PyData.str) (bs.map PyData.str)) = _
    rw [eqvAll_txt as bs]
    by_cases h : a = b
    · subst h
      rw [beq_self_eq_true, Bool.true_and]
      by_cases h2 : as = bs
      · subst h2
        rw [decide_eq_true rfl, decide_eq_true rfl]
      · rw [decide_eq_false h2, decide_eq_false (fun e => h2 (List.cons.inj e).2)]
    · rw [beq_eq_false_iff_ne.mpr h, Bool.false_and, decide_eq_false (fun e => h (List.cons.inj e).1)]
theorem eqv_txt (as bs : List Str) : PyData.eqv (txtD as) (txtD bs) = decide (as = bs) := by
  unfold txtD
  rw [show PyData.eqv (.tuple (as.map PyData.str)) (.tuple (bs.map PyData.str)) = PyData.eqvAll (as.map PyData.str) (bs.map PyData.str) by simp only [PyData.eqv]]
  exact eqvAll_txt as bs
theorem stepD_txt (s : Step) : stepD s = txtD [s.1, s.2] := rfl
theorem eqv_step (s t : Step) : PyData.eqv (stepD s) (stepD t) = decide (s = t) := by
  rw [stepD_txt, stepD_txt, eqv_txt]
  by_cases h : s = t
  · subst h
    rw [decide_eq_true rfl, decide_eq_true rfl]
  · rw [decide_eq_false h, decide_eq_false]
    intro e
    have e1 := (List.cons.inj e).1
    have e2 := (List.cons.inj (List.cons.inj e).2).1
    exact h (Prod.ext e1 e2)
theorem any_step (ss : List Step) (t : Step) : (ss.map stepD).any (fun z => PyData.eqv z (stepD t)) = decide (t ∈ ss) := by
  induction ss with
  | nil => rw [decide_eq_false (by simp)]; rfl
  | cons s ss ih =>
    rw [List.map_cons, List.any_cons, ih, eqv_step]
    by_cases h : s = t
    · subst h
      rw [decide_eq_true rfl, decide_eq_true List.mem_cons_self, Bool.true_or]
    · rw [decide_eq_false h, Bool.false_or]
      by_cases h2 : t ∈ ss
      · rw [decide_eq_true h2, decide_eq_true (List.mem_cons_of_mem _ h2)]
      · rw [decide_eq_false h2, decide_eq_false]
        intro e
        rcases List.mem_cons.mp e with e | e
        · exact h e.symm
        · exact h2 e
abbrev sOk (n : Str) : Prop := PyData.strOk n = true
theorem txt_lay : ∀ ns : List Str, (∀ n ∈ ns, sOk n) → PyData.canLayAll0 (ns.map PyData.str) = true ∧ PyData.depthAll (ns.map PyData.str) = 0
  | [], _ => ⟨rfl, rfl⟩
  | n :: ns, h => by
    obtain ⟨a, b⟩ := txt_lay ns (fun x hx => h x (List.mem_cons_of_mem _ hx))
    refine ⟨?_, ?_⟩
    · show (PyData.canLay0 (.str n) && PyData.canLayAll0 (ns.map PyData.str)) = true
      rw [a, Bool.and_true]
      have e : PyData.canLay0 (.str n) = PyData.strOk n := by simp only [PyData.canLay0]
      rw [e]
      exact h n List.mem_cons_self
    · show max (PyData.depth (.str n)) (PyData.depthAll (ns.map PyData.str)) = 0
      have e : PyData.depth (.str n) = 0 := by simp only [PyData.depth]
      rw [b, e]
      rfl
theorem shaped_of {d : PyData} (h1 : d.canLay0 = true) (h2 : d.depth ≤ 64) : SeqAt.shaped d = true := by
  show (d.canLay0 && decide (d.depth ≤ 64)) = true
  rw [h1, decide_eq_true h2]
  rfl
theorem txtD_lay {ns : List Str} (h : ∀ n ∈ ns, sOk n) : (txtD ns).canLay0 = true ∧ (txtD ns).depth = 1 := by
  obtain ⟨a, b⟩ := txt_lay ns h
  unfold txtD
  simp only [PyData.canLay0, PyData.depth]
  rw [a, b]
  exact ⟨rfl, rfl⟩
theorem txtD_shaped {ns : List Str} (h : ∀ n ∈ ns, sOk n) : SeqAt.shaped (txtD ns) = true := by
  obtain ⟨a, b⟩ := txtD_lay h
  exact shaped_of a (by omega)
/-- a step that a row may have, by its signs -/
structure GoodS (s : Step) : Prop where
  pl : plainW s.1
  ok1 : sOk s.1
  ok2 : sOk s.2
theorem GoodS.all {s : Step} (h : GoodS s) : ∀ n ∈ [s.1, s.2], sOk n := by
  intro n hn
  rcases List.mem_cons.mp hn with rfl | hn
  · exact h.ok1
  · rcases List.mem_cons.mp hn with rfl | hn
    · exact h.ok2
    · cases hn
theorem stepsD_lay : ∀ ss : List Step, (∀ s ∈ ss, GoodS s) → PyData.canLayAll0 (ss.map stepD) = true ∧ PyData.depthAll (ss.map stepD) ≤ 1
  | [], _ => ⟨rfl, Nat.zero_le _⟩
  | s :: ss, h => by
    obtain ⟨a, b⟩ := stepsD_lay ss (fun x hx => h x (List.mem_cons_of_mem _ hx))
    obtain ⟨c, d⟩ := txtD_lay (h s List.mem_cons_self).all
    refine ⟨?_, ?_⟩
    · show (PyData.canLay0 (stepD s) && PyData.canLayAll0 (ss.map stepD)) = true
      rw [a, Bool.and_true]
      exact c
    · show max (PyData.depth (stepD s)) (PyData.depthAll (ss.map stepD)) ≤ 1
      have e : PyData.depth (stepD s) = 1 := d
      omega
theorem stepsD_shaped {ss : List Step} (h : ∀ s ∈ ss, GoodS s) : SeqAt.shaped (.tuple (ss.map stepD)) = true := by
  obtain ⟨a, b⟩ := stepsD_lay ss h
  refine shaped_of (by simp only [PyData.canLay0]; exact a) ?_
  simp only [PyData.depth]
  omega
theorem dp_txts {K : PySem.W.Frag} {H : Hp} : ∀ ns : List Str, DpAll K H (ns.map V.str) (ns.map PyData.str)
  | [] => .nil
  | n :: ns => .cons (.str n) (dp_txts ns)
theorem TxtT.dp {K : PySem.W.Frag} {H : Hp} {v : V} {ns : List Str} (h : TxtT K H v ns) : Dp K H v (txtD ns) := by
  obtain ⟨p, rfl, q⟩ := h
  exact .tup q (dp_txts ns)
theorem StepAt.dp {K : PySem.W.Frag} {H : Hp} {v : V} {s : Step} (h : StepAt K H v s) : Dp K H v (stepD s) := by
  obtain ⟨p, rfl, q⟩ := h
  exact .tup q (dp_txts [s.1, s.2])
theorem StepsAt.dp {K : PySem.W.Frag} {H : Hp} {xs : List V} {ss : List Step} (h : StepsAt K H xs ss) : DpAll K H xs (ss.map stepD) := by
  unfold StepsAt at h
  induction h with
  | nil => exact .nil
  | cons a _ ih => exact .cons a.dp ih
theorem inV_txt (n : Str) : ∀ ns : List Str, inV (.str n) (ns.map V.str) = decide (n ∈ ns)
  | [] => by rw [decide_eq_false (by simp)]; rfl
  | m :: ns => by
    have e : inV (.str n) ((m :: ns).map V.str) = ((m == n) || inV (.str n) (ns.map V.str)) := rfl
    rw [e, inV_txt n ns]
    by_cases h : m = n
    · subst h
      rw [beq_self_eq_true, Bool.true_or, decide_eq_true List.mem_cons_self]
    · rw [beq_eq_false_iff_ne.mpr h, Bool.false_or]
      by_cases h2 : n ∈ ns
      · rw [decide_eq_true h2, decide_eq_true (List.mem_cons_of_mem _ h2)]
      · rw [decide_eq_false h2, decide_eq_false]
        intro z
        rcases List.mem_cons.mp z with z | z
        · exact h z.symm
        · exact h2 z
theorem flat_txt : ∀ ns : List Str, (ns.map V.str).all flatV = true
  | [] => rfl
  | n :: ns => by
    show (flatV (.str n) && (ns.map V.str).all flatV) = true
    rw [flat_txt ns]
    rfl
/-- a + b of tuples of texts -/
theorem cat_txt {K : PySem.W.Frag} {H : Hp} {u v : V} {as bs : List Str} {Q : VK} (ha : TxtT K H u as) (hb : TxtT K H v bs) (hl : as.length + bs.length ≤ 1000) (q : ∀ H' u, Same H H' → TxtT K H' u (as ++ bs) → Q u H') : rCatA K u v H Q := by
  obtain ⟨a, rfl, ha⟩ := ha
  obtain ⟨b, rfl, hb⟩ := hb
  refine ⟨a, b, _, _, rfl, rfl, ha, hb, ?_, fun e => ?_, fun _ e => ?_, fun _ _ p np => ?_⟩
  · rw [List.length_map, List.length_map, sizeLine_eq]
    omega
  · have e2 : as = [] := List.map_eq_nil_iff.mp e
    subst e2
    exact q H _ (Same.refl H) ⟨b, rfl, hb⟩
  · have e2 : bs = [] := List.map_eq_nil_iff.mp e
    subst e2
    rw [List.append_nil] at q
    exact q H _ (Same.refl H) ⟨a, rfl, ha⟩
  · refine q _ _ (same_upd np) ⟨p, rfl, SqT.of ?_⟩
    rw [upd_same, List.map_append]
/-- t[-1:] of a tuple of texts -/
theorem last_txt {K : PySem.W.Frag} {H : Hp} {u : V} {ns : List Str} {Q : VK} (h : TxtT K H u ns) (q : ∀ H' u, Same H H' → TxtT K H' u (ns.drop (ns.length - 1)) → Q u H') : rSlA K u (some (-1)) none H Q := by
  obtain ⟨a, rfl, h⟩ := h
  have e1 : HT.sIx (ns.map V.str).length 0 (some (-1)) = ns.length - 1 := by rw [List.length_map]; exact sIx_m1 _ _
  refine ⟨a, _, rfl, h, fun c => ?_, fun c u nu => ?_⟩
  · have c1 := c.1
    rw [e1] at c1
    rw [c1, List.drop_zero] at q
    exact q H _ (Same.refl H) ⟨a, rfl, h⟩
  · refine q _ _ (same_upd nu) ⟨u, rfl, SqT.of ?_⟩
    rw [upd_same]
    have e2 : cutV (ns.map V.str) (some (-1)) none = (ns.drop (ns.length - 1)).map V.str := by
      show ((ns.map V.str).drop (HT.sIx (ns.map V.str).length 0 (some (-1)))).take (HT.sIx (ns.map V.str).length (ns.map V.str).length none - HT.sIx (ns.map V.str).length 0 (some (-1))) = _
      rw [e1, List.map_drop]
      show ((ns.map V.str).drop (ns.length - 1)).take ((ns.map V.str).length - (ns.length - 1)) = _
      rw [List.take_of_length_le]
      rw [List.length_drop]
      exact Nat.le_refl _
    rw [e2]
def wrongS (s : Step) (later : List Step) (around taken : List Str) : Bool :=
  if s.1 = "give" then !decide (taken.drop (taken.length - 1) = [s.2]) else if s.1 = "take" then (if s.2 ∈ around ++ taken then true else !decide ((("give" : Str), s.2) ∈ later)) else false
def spWrong (K : PySem.W.Frag) : Sp := fun vs H Q _ => ∃ (v l ar tk : V) (s : Step) (xs : List V) (p : Addr) (later : List Step) (around taken : List Str), vs = [v, l, ar, tk] ∧ StepAt K H v s ∧ l = .ref p ∧ SqT K H p xs ∧ StepsAt K H xs later ∧ TxtT K H ar around ∧ TxtT K H tk taken ∧
  GoodS s ∧ (∀ s ∈ later, GoodS s) ∧ (∀ n ∈ taken, sOk n) ∧ around.length + taken.length ≤ 1000 ∧ ∀ H', Same H H' → Q (.bl (wrongS s later around taken)) H'
theorem give_plain : plainW "give" := by refine ⟨?_, ?_, ?_⟩ <;> decide +kernel
theorem give_sok : sOk "give" := by decide +kernel
theorem give_good {n : Str} (h : sOk n) : GoodS (("give" : Str), n) := ⟨give_plain, give_sok, h⟩
section
variable {P : Program} {w : World} {K : PySem.W.Frag} {mg : Str → Option Value} {base : Heap}
abbrev sWr : Stmt := top 14
theorem scWr : FnScope ["item", "later", "around", "taken"] ["item", "later", "around", "taken"] (defScope sWr) := ⟨rfl, rfl, rfl, by decide +kernel, rfl, by decide +kernel, by decide +kernel⟩
theorem ok_wr {f : Addr} {fd : FuncData} (F : Fun K "is_wrong" "is_wrong" sWr f fd) : FnOk P w K mg base CX0 1 f fd ["item", "later", "around", "taken"] (spWrong K) := by
  refine F.ok scWr (fun vs H Q E h => ?_) (fun cdv A outer s H vs Q E hr h => ?_)
  · obtain ⟨v, l, ar, tk, s, xs, p, later, around, taken, rfl, _⟩ := h
    rfl
  · obtain ⟨v, l, ar, tk, st, xs, pl, later, around, taken, rfl, ⟨p, rfl, hp⟩, rfl, hl, hls, har, htk, gs, gl, gt, hz, q⟩ := h
    refine ⟨_, (pss_cons (ps_if (pt_cmpR op_eq (pe_ix ix_tup (pv 0) pe_int (fun _ _ => rfl)) pe_str (nomark _))
       (pss_one (ps_ret (pe_cmpR (op_neD hr.units) (pe_slice sl_tupA (pv 3) (po_some (pe_un un_neg pe_int)) po_none) (pe_tup (pa_cons (pe_ix ix_tup (pv 0) pe_int (fun _ _ => rfl)) pa_nil)) (nomark _))))
       pss_nil)
       (pss_cons (ps_if (pt_cmpR op_eq (pe_ix ix_tup (pv 0) pe_int (fun _ _ => rfl)) pe_str (nomark _))
       (pss_one (ps_ret (pe_or (pe_cmpR op_in_seq (pe_ix ix_tup (pv 0) pe_int (fun _ _ => rfl)) (pe_op op_catA (pv 2) (pv 3)) (by rfl)) (pe_one (pe_cmpR (op_notInTD hr.units65) (pe_tup (pa_cons pe_str (pa_cons (pe_ix ix_tup (pv 0) pe_int (fun _ _ => rfl)) pa_nil))) (pv 1) (by rfl))))))
       pss_nil)
       (pss_one (ps_ret (pe_and (pe_cmpR op_eq (pe_ix ix_tup (pv 0) pe_int (fun _ _ => rfl)) pe_str (nomark _)) (pe_one (pe_cmpR op_in_seq (pe_ix ix_tup (pv 0) pe_int (fun _ _ => rfl)) (pe_op op_catA (pv 2) (pv 3)) (by rfl)))))))), ?_⟩
    refine ⟨_, rfl, p, _, _, _, rfl, rfl, hp, rfl, rfl, _, rfl, ?_⟩
    rw [dec_str]
    unfold wrongS at q
    by_cases h1 : st.1 = "give"
    · rw [decide_eq_true h1]
      rw [if_pos h1] at q
      refine iteT ?_
      refine ⟨_, rfl, _, rfl, _, rfl, ?_⟩
      dsimp only [tNoPart]
      refine last_txt htk fun H1 u s1 hu => ?_
      refine ⟨_, rfl, p, _, _, _, rfl, rfl, s1.tupS hp, rfl, by show 1 ≤ sizeLine; decide, fun y ny => ?_⟩
      have s2 := same_upd (o := HO.tup [V.str st.2]) ny
      have hy : TxtT K (upd H1 y (.tup [V.str st.2])) (.ref y) [st.2] := ⟨y, rfl, SqT.of upd_same⟩
      refine ⟨_, _, (hu.same s2).dp, hy.dp, txtD_shaped fun n hn => gt n (List.mem_of_mem_drop hn), txtD_shaped fun n hn => ?_, ?_⟩
      · rcases List.mem_cons.mp hn with rfl | hn
        · exact gs.ok2
        · cases hn
      · rw [eqv_txt]
        exact q _ (s1.trans s2)
    · rw [decide_eq_false h1]
      rw [if_neg h1] at q
      refine iteF ?_
      refine ⟨_, rfl, p, _, _, _, rfl, rfl, hp, rfl, rfl, _, rfl, ?_⟩
      rw [dec_str]
      by_cases h2 : st.1 = "take"
      · rw [decide_eq_true h2]
        rw [if_pos h2] at q
        refine iteT ?_
        refine ⟨_, rfl, p, _, _, _, rfl, rfl, hp, rfl, _, rfl, _, rfl, cat_txt har htk hz fun H1 u s1 hu => ?_⟩
        obtain ⟨pu, rfl, hu⟩ := hu
        refine ⟨pu, _, rfl, .inr hu, rfl, flat_txt _, _, rfl, ?_⟩
        show if inV (.str st.2) ((around ++ taken).map V.str) = true then _ else _
        rw [inV_txt]
        by_cases h3 : st.2 ∈ around ++ taken
        · rw [decide_eq_true h3]
          rw [if_pos h3] at q
          exact iteT (q _ s1)
        · rw [decide_eq_false h3]
          rw [if_neg h3] at q
          refine iteF ?_
          refine ⟨_, rfl, p, _, _, _, rfl, rfl, s1.tupS hp, rfl, by show 2 ≤ sizeLine; decide, fun y ny => ?_⟩
          have s2 := same_upd (o := HO.tup [V.str "give", V.str st.2]) ny
          have hy : StepAt K (upd H1 y (.tup [V.str "give", V.str st.2])) (.ref y) (("give" : Str), st.2) := ⟨y, rfl, SqT.of upd_same⟩
          refine ⟨_, rfl, stepD (("give" : Str), st.2), later.map stepD, hy.dp, .tup ((s1.trans s2).tupS hl) (hls.same (s1.trans s2)).dp, txtD_shaped (give_good gs.ok2).all, stepsD_shaped gl, ?_⟩
          rw [any_step]
          exact q _ (s1.trans s2)
      · rw [decide_eq_false h2]
        rw [if_neg h2] at q
        refine iteF ?_
        refine ⟨_, rfl, p, _, _, _, rfl, rfl, hp, rfl, rfl, _, rfl, ?_⟩
        rw [dec_str, decide_eq_false gs.pl.2.2]
        exact iteF (q H (Same.refl H))
end
end Rw

/-! R9 -/
/-! ### the steps that take or give wrongly -/
namespace Rw
open PySem PySem.Spec PyProof.Rows L2
def wrongs : List Step → List Str → List Str → List Bool
  | [], _, _ => []
  | s :: ss, t, ar => wrongS s ss ar t :: wrongs ss (behind s t) ar
theorem wrongs_len : ∀ (ss : List Step) (t ar : List Str), (wrongs ss t ar).length = ss.length
  | [], _, _ => rfl
  | s :: ss, t, ar => congrArg (· + 1) (wrongs_len ss _ ar)
theorem wrongs_get : ∀ (ss : List Step) (t ar : List Str) (i : Nat) (s : Step), ss[i]? = some s → (wrongs ss t ar)[i]? = some (wrongS s (ss.drop (i + 1)) ar (after (ss.take i) t))
  | [], _, _, _, _, h => by cases h
  | x :: ss, t, ar, 0, s, h => by cases h; rfl
  | x :: ss, t, ar, i + 1, s, h => wrongs_get ss (behind x t) ar i s h
theorem behind_ok {s : Step} {t : List Str} (h : ∀ n ∈ t, sOk n) (hs : sOk s.2) : ∀ n ∈ behind s t, sOk n := by
  intro n hn
  unfold behind at hn
  split at hn
  · rcases List.mem_append.mp hn with hn | hn
    · exact h n hn
    · rcases List.mem_cons.mp hn with rfl | hn
      · exact hs
      · cases hn
  · split at hn
    · exact h n (List.dropLast_subset _ hn)
    · exact h n hn
theorem after_ok : ∀ (ss : List Step) (t : List Str), (∀ n ∈ t, sOk n) → (∀ s ∈ ss, sOk s.2) → ∀ n ∈ after ss t, sOk n
  | [], t, h, _ => h
  | s :: ss, t, h, hs => after_ok ss (behind s t) (behind_ok h (hs s List.mem_cons_self)) (fun x hx => hs x (List.mem_cons_of_mem _ hx))
/-- t[i + 1:] -/
theorem tail_tup {K : PySem.W.Frag} {H : Hp} {p : Addr} {xs : List V} {i : Nat} {Q : VK} (h : SqT K H p xs) (hi : i < xs.length) (q : ∀ H' u, Same H H' → SqT K H' u (xs.drop (i + 1)) → Q (.ref u) H') : rSlA K (.ref p) (some ((i : Int) + 1)) none H Q := by
  have e1 : HT.sIx xs.length 0 (some ((i : Int) + 1)) = i + 1 := by
    have z := HT.sIx_nat xs.length 0 (i + 1)
    rw [show (((i + 1 : Nat) : Int)) = (i : Int) + 1 by omega] at z
    rw [z]
    omega
  refine ⟨p, _, rfl, h, fun c => ?_, fun c u nu => ?_⟩
  · have c1 := c.1
    rw [e1] at c1
    omega
  · refine q _ _ (same_upd nu) (SqT.of ?_)
    rw [upd_same]
    have e2 : cutV xs (some ((i : Int) + 1)) none = xs.drop (i + 1) := by
      show (xs.drop (HT.sIx xs.length 0 (some ((i : Int) + 1)))).take (HT.sIx xs.length xs.length none - HT.sIx xs.length 0 (some ((i : Int) + 1))) = _
      rw [e1]
      show (xs.drop (i + 1)).take (xs.length - (i + 1)) = _
      rw [List.take_of_length_le]
      rw [List.length_drop]
      exact Nat.le_refl _
    rw [e2]
def spWL (K : PySem.W.Frag) : Sp := fun vs H Q _ => ∃ (a : Addr) (ar : V) (xs : List V) (ss : List Step) (around : List Str), vs = [.ref a, ar] ∧ SqT K H a xs ∧ StepsAt K H xs ss ∧ (∀ s ∈ ss, GoodS s) ∧ TxtT K H ar around ∧ around.length + ss.length ≤ 900 ∧
  ∀ H' p, Same H H' → H p = none → H' p = some (.lst ((wrongs ss [] around).map V.bl)) → Q (.ref p) H'
section
variable {P : Program} {w : World} {K : PySem.W.Frag} {mg : Str → Option Value} {base : Heap}
abbrev sWL : Stmt := top 13
theorem scWL : FnScope ["items", "around", "found", "taken", "at", "item", "inner"] ["items", "around"] (defScope sWL) := ⟨rfl, rfl, rfl, by decide +kernel, rfl, by decide +kernel, by decide +kernel⟩
theorem ok_wl {f fB fL fW : Addr} {fd fdB fdL fdW : FuncData} (F : Fun K "wrong_locks" "wrong_locks" sWL f fd) (GB : FnOk P w K mg base CX0 1 fB fdB ["item"] (spBr K)) (TB : Called K mg "branches" ["item"] fB fdB)
    (GL : FnOk P w K mg base CX0 1 fL fdL ["item", "held"] (spBeh K)) (TL : Called K mg "locks_behind" ["item", "held"] fL fdL) (GW : FnOk P w K mg base CX0 1 fW fdW ["item", "later", "around", "taken"] (spWrong K)) (TW : Called K mg "is_wrong" ["item", "later", "around", "taken"] fW fdW)
    (m_enumerate : mg "enumerate" = none) : FnOk P w K mg base CX0 2 f fd ["items", "around"] (spWL K) := by
  refine F.ok scWL (fun vs H Q E h => ?_) (fun cdv A outer s H vs Q E hr h => ?_)
  · obtain ⟨a, ar, xs, ss, around, rfl, _⟩ := h
    rfl
  · obtain ⟨a, ar, xs, ss, around, rfl, hx, hss, hg, har, hz, q⟩ := h
    refine ⟨_, (pss_cons (ps_set (i := 2) scWL.nd rfl (.inl rfl) (pe_lst pa_nil))
       (pss_cons (ps_set (i := 3) scWL.nd rfl (.inl rfl) (pe_tup pa_nil))
       (pss_cons (ps_for PassesOwn.never rfl (pi_enumT rfl m_enumerate (pa_cons (pv 0) pa_nil)) (pg_tup rfl (pgs_cons (pg_name (i := 4) scWL.nd rfl (.inl rfl)) (pgs_cons (pg_name (i := 5) scWL.nd rfl (.inl rfl)) pgs_nil)))
       (pss_cons (ps_expr (pe_bm PySem.F.plainAttrs_list PySem.F.slot_list_append PySem.F.type_list_append mt_append (pv 2) (pa_cons (pe_call GW (hr.mono (by decide)) rfl TW.1 TW.2.1 TW.2.2 .nil pass0 (pa_cons (pv 5) (pa_cons (pe_slice sl_tupA (pv 0) (po_some (pe_op op_add (pv 4) pe_int)) po_none) (pa_cons (pv 1) (pa_cons (pv 3) pa_nil))))) pa_nil)))
       (pss_cons (ps_set (i := 3) scWL.nd rfl (.inl rfl) (pe_call GL (hr.mono (by decide)) rfl TL.1 TL.2.1 TL.2.2 .nil pass0 (pa_cons (pv 5) (pa_cons (pv 3) pa_nil))))
       (pss_one (ps_for PassesOwn.never rfl (pi_tup (pe_call GB (hr.mono (by decide)) rfl TB.1 TB.2.1 TB.2.2 .nil pass0 (pa_cons (pv 5) pa_nil))) (pg_name (i := 6) scWL.nd rfl (.inl rfl))
       (pss_one ps_dead))))))
       (pss_one (ps_ret (pv 2)))))), ?_⟩
    refine ⟨Nat.zero_le _, fun o no => ?_⟩
    have s1 : Same H (upd H o (.lst [])) := same_upd no
    have len := hss.length
    refine ⟨Nat.zero_le _, fun t0 nt0 => ?_⟩
    have s2 := same_upd (o := HO.tup []) nt0
    refine ⟨_, rfl, a, _, rfl, (s1.trans s2).tupS hx, for_enumT (K := K) (a := a) (xs := xs)
      (fun i σ H' => ∃ (u : V) (v4 v5 v6 : Option V), σ = [some (.ref a), some ar, some (.ref o), some u, v4, v5, v6] ∧ Same H H' ∧ H' o = some (.lst (((wrongs ss [] around).take i).map V.bl)) ∧ TxtT K H' u (after (ss.take i) []))
      ⟨.ref t0, none, none, none, rfl, s1.trans s2, s2 _ _ upd_same, ⟨t0, rfl, SqT.of upd_same⟩⟩ ?_ ?_ ?_⟩
    · rintro i σ H' hi ⟨u, v4, v5, v6, rfl, sm, _⟩
      exact sm.tupS hx
    · rintro i x σ H1 T1 hxi ⟨u, v4, v5, v6, rfl, sm, ho, hu⟩ nT
      obtain ⟨st, hst, sa⟩ := hss.get hxi
      have gs := hg st (List.mem_of_getElem? hst)
      have hi : i < ss.length := (List.getElem?_eq_some_iff.mp hst).1
      have u0 := same_upd (o := .tup [.int (i : Nat), x]) nT
      have al := after_len (ss.take i) []
      rw [List.length_take, List.length_nil] at al
      refine ⟨T1, _, rfl, SqT.of upd_same, rfl, _, _, rfl, _, _, rfl, rfl, ?_⟩
      have sm0 := sm.trans u0
      -- is_wrong(item, items[at + 1:], around, taken)
      refine ⟨_, rfl, .inl ⟨rfl, _, SqL.of (u0 _ _ ho)⟩, _, rfl, _, rfl, _, rfl, _, _, rfl, rfl, _, rfl, ?_⟩
      dsimp only [tNoPart]
      refine tail_tup (sm0.tupS hx) (by omega) fun H2 u2 s3 hu2 => ?_
      have sm2 := sm0.trans s3
      refine ⟨_, rfl, _, rfl, _, _, _, _, st, _, u2, ss.drop (i + 1), around, after (ss.take i) [], rfl, sa.same sm2, rfl, hu2, StepsAt.same sm2 (hss.drop (i + 1)), har.same sm2, hu.same (u0.trans s3), gs, fun z hz => hg z (List.mem_of_mem_drop hz), ?_, by omega, fun H3 s4 => ?_⟩
      · refine after_ok _ _ (fun n hn => by cases hn) fun z hz => (hg z (List.mem_of_mem_take hz)).ok2
      have sm3 := sm2.trans s4
      have ho3 := s4 _ _ (s3 _ _ (u0 _ _ ho))
      have hu3 := hu.same (u0.trans (s3.trans s4))
      refine ⟨o, _, _, rfl, rfl, ho3, ?_, ?_⟩
      · rw [List.length_map, List.length_take, wrongs_len, sizeLine_eq]
        omega
      generalize hH4 : upd H3 o _ = H4
      have sm4 : Same H H4 := by
        rw [← hH4]
        exact same_updN no sm3
      have hu4 : TxtT K H4 u (after (ss.take i) []) := by
        rw [← hH4]
        exact hu3.updL ho3
      have ho4 : H4 o = some (.lst (((wrongs ss [] around).take (i + 1)).map V.bl)) := by
        rw [← hH4, upd_same, take_snoc (wrongs_get ss [] around i st hst), List.map_append]
        rfl
      clear hH4
      refine ⟨_, rfl, _, rfl, _, _, st, _, rfl, sa.same sm4, hu4, by omega, fun H5 u5 s6 hu5 => ?_⟩
      refine ⟨_, rfl, _, _, rfl, sa.same (sm4.trans s6), gs.pl, fun H6 p6 s7 e6 => ?_⟩
      refine ⟨p6, rfl, ⟨_, e6⟩, for_tup (xs := []) (fun _ σ H' => σ = [some (.ref a), some ar, some (.ref o), some u5, some (.int (i : Nat)), some x, v6] ∧ H' = H6) ⟨rfl, rfl⟩ ?_ ?_ ?_⟩
      · rintro _ _ _ _ ⟨_, rfl⟩
        exact e6
      · rintro _ _ _ _ h
        cases h
      · rintro _ _ ⟨rfl, rfl⟩
        refine ⟨u5, _, _, _, rfl, (sm4.trans s6).trans s7, s7 _ _ (s6 _ _ ho4), ?_⟩
        rw [take_snoc hst, after_snoc]
        exact hu5.same s7
    · rintro σ H' ⟨u, v4, v5, v6, rfl, sm, ho, hu⟩
      rw [len, ← wrongs_len ss [] around, List.take_length] at ho
      exact ⟨_, rfl, q H' o sm no ho⟩
end
end Rw

/-! R10 -/
/-! ### values that stay what they are; an own error raised -/
namespace Rw
open PySem PySem.Spec PyProof.Rows L2
theorem TyX_same {K : PySem.W.Frag} {H H' : Hp} (e : Same H H') {v : V} {t : Value} (h : TyX K H v t) : TyX K H' v t := by
  cases h with
  | base h =>
    cases h with
    | non => exact .base .non
    | bl x => exact .base (.bl x)
    | int i => exact .base (.int i)
    | str x => exact .base (.str x)
    | flt x => exact .base (.flt x)
    | lst h => exact .base (.lst (e _ _ h))
    | frz h => exact .base (.frz (e _ _ h))
    | tup h => exact .base (.tup (e _ _ h))
    | dK h => exact .base (.dK (e _ _ h))
    | dT h => exact .base (.dT (e _ _ h))
    | ins h a b c d f => exact .base (.ins (e _ _ h) a b c d f)
  | byt b => exact .byt b
  | set h => exact .set (e _ _ h)
  | kList h c => exact .kList h c
  | kTuple h c => exact .kTuple h c
  | kDict h c => exact .kDict h c
  | fTuple h => exact .fTuple (e _ _ h)
  | fDict h => exact .fDict (e _ _ h)
theorem NV.same {K : PySem.W.Frag} {H H' : Hp} (e : Same H H') {v : V} {b : Bool} (h : NV K H v b) : NV K H' v b := by
  cases h with
  | str z hz => exact .str z hz
  | other t m => exact .other (TyX_same e t) m
theorem SV.same {K : PySem.W.Frag} {d : Addr} {H H' : Hp} (e : Same H H') {v : V} {r : Option Step} (h : SV K d H v r) : SV K d H' v r := by
  cases h with
  | good a b c f => exact .good (e.tupS a) b c f
  | name a b c => exact .name (e.tupS a) b (c.same e)
  | word a b => exact .word (e.tupS a) b
  | first a b c => exact .first (e.tupS a) (TyX_same e b) c
  | len a b => exact .len (e.tupS a) b
  | other a b => exact .other (TyX_same e a) b
theorem SV.step {K : PySem.W.Frag} {d : Addr} {H : Hp} {v : V} {s : Step} (h : SV K d H v (some s)) : StepAt K H v s := by
  cases h with
  | good a b c f => exact ⟨_, rfl, a⟩
/-- for i, x in enumerate(list) -/
theorem for_enum {K : PySem.W.Frag} {a : Addr} {xs : List V} {g : TG} {tb : TS} {D : Ends} {σ : L2.St} {H : Hp} (Pv : Nat → L2.St → Hp → Prop) (h0 : Pv 0 σ H) (hl : ∀ i σ H, i ≤ xs.length → Pv i σ H → SqL K H a xs)
    (hs : ∀ i x σ H T, xs[i]? = some x → Pv i σ H → H T = none → g (.ref T) σ (upd H T (.tup [.int (i : Nat), x])) fun σ2 H2 => tb { D with nx := Pv (i + 1), ct := Pv (i + 1), bk := D.nx } σ2 H2) (hd : ∀ σ H, Pv xs.length σ H → D.nx σ H) :
    ∃ W : Nat → Nat → L2.St → Hp → Prop, (∃ m, W 0 m σ H) ∧ ∀ i m σ H, W i m σ H →
      ((Ite K a).stop i H ∧ D.nx σ H) ∨ ((Ite K a).go i H ∧ ∃ N : L2.St → Hp → Prop, (∀ σ' H', N σ' H' → ∃ m', m' < m ∧ W (i + 1) m' σ' H') ∧ ∀ x H', (Ite K a).yld i H x H' → g x σ H' fun σ2 H2 => tb { D with nx := N, ct := N, bk := D.nx } σ2 H2) := by
  refine ⟨fun i m σ H => m = xs.length - i ∧ i ≤ xs.length ∧ Pv i σ H, ⟨xs.length, by simp, Nat.zero_le _, h0⟩, ?_⟩
  rintro i m σ H ⟨rfl, hi, p⟩
  have q := hl i σ H hi p
  by_cases hlt : i < xs.length
  · refine .inr ⟨⟨xs, xs[i], q, by simp [hlt]⟩, Pv (i + 1), fun σ' H' p' => ⟨xs.length - (i + 1), by omega, rfl, hlt, p'⟩, fun v H' y => ?_⟩
    obtain ⟨T, x, rfl, nT, rfl, hx⟩ := y
    exact hs i x σ H T (hx xs q) p nT
  · have e : i = xs.length := by omega
    subst e
    exact .inl ⟨⟨xs, q, Nat.le_refl _⟩, hd σ H p⟩
def SameBut (a : Addr) (H H' : Hp) : Prop := ∀ b o, b ≠ a → H b = some o → H' b = some o
def spR1 (K : PySem.W.Frag) (n : Str) : Sp := fun vs H Q _ => ∃ (a C fI : Addr) (v : V), vs = [.ref a, v] ∧ OexG K C fI ∧ PySem.W.findIn K (.ref C) n = some none ∧ H a = some (exo a C none) ∧
  ∀ H' d, SameBut a H H' → H' a = some (exo a C (some d)) → H' d = some (exd d [(n, v)]) → H d = none → d ≠ a → Q .non H'
/-- what a raise of it leaves -/
def Left (H : Hp) (n : Str) (v : V) (d : Addr) (H' : Hp) : Prop := Same H H' ∧ H d = none ∧ H' d = some (.xd [(n, v)])
theorem Left.before {H0 H H' : Hp} {n : Str} {v : V} {d : Addr} (s : Same H0 H) (h : Left H n v d H') : Left H0 n v d H' := ⟨s.trans h.1, s.free h.2.1, h.2.2⟩
theorem raise1 {K : PySem.W.Frag} {C fI a : Addr} {H : Hp} {n : Str} {v : V} {Q : XK} (T : OexG K C fI) (no : PySem.W.findIn K (.ref C) n = some none) (na : H a = none) (q : ∀ d H', Left H n v d H' → Q (.ref C) (some d) H') :
    spR1 K n [.ref a, v] (upd H a (exo a C none)) (fun u H2 => u = .non ∧ ∃ (d : Addr) (fs : List (Str × V)), H2 a = some (exo a C (some d)) ∧ H2 d = some (exd d fs) ∧ H d = none ∧ Q (.ref C) (some d) (upd (del H2 a) d (.xd fs))) (fun _ _ _ => False) := by
  refine ⟨a, C, fI, v, rfl, T, no, upd_same, fun H' d sb e1 e2 nd ne => ⟨rfl, d, _, e1, e2, ?_, q _ _ ⟨fun b o hb => ?_, ?_, upd_same⟩⟩⟩
  · rw [upd_ne ne] at nd
    exact nd
  · have hb1 : b ≠ a := ne_of_none hb na
    rw [upd_ne ne] at nd
    rw [upd_ne (ne_of_none hb nd), del_ne hb1]
    exact sb b o hb1 (by rw [upd_ne hb1]; exact hb)
  · rw [upd_ne ne] at nd
    exact nd
structure Er (P : Program) (w : World) (K : PySem.W.Frag) (mg : Str → Option Value) (base : Heap) (x n : Str) (C fI : Addr) (fd : FuncData) : Prop where
  g : mg x = some (.ref C)
  o : OexG K C fI
  no : PySem.W.findIn K (.ref C) n = some none
  F : FnOk P w K mg base CX0 1 fI fd ["self", n] (spR1 K n)
  b : Binds K fd ["self", n] []
theorem all_some {α : Type} : ∀ rs : List (Option α), (∀ j, j < rs.length → ∃ s, rs[j]? = some (some s)) → ∃ ss : List α, rs = ss.map some
  | [], _ => ⟨[], rfl⟩
  | r :: rs, h => by
    obtain ⟨s, e⟩ := h 0 (Nat.zero_lt_succ _)
    obtain ⟨ss, rfl⟩ := all_some rs fun j hj => h (j + 1) (Nat.succ_lt_succ hj)
    cases e
    exact ⟨s :: ss, rfl⟩
section
variable {P : Program} {w : World} {K : PySem.W.Frag} {mg : Str → Option Value} {base : Heap}
abbrev sIS : Stmt := inClass (top 3) 0
theorem scIS : FnScope ["self", "index"] ["self", "index"] (defScope sIS) := ⟨rfl, rfl, rfl, by decide +kernel, rfl, by decide +kernel, by decide +kernel⟩
theorem ok_IS {f : Addr} {fd : FuncData} (F : Fun K "__init__" "InvalidStep.__init__" sIS f fd) : FnOk P w K mg base CX0 1 f fd ["self", "index"] (spR1 K "index") := by
  refine F.ok scIS (fun vs H Q E h => ?_) (fun cdv A outer s H vs Q E hr h => ?_)
  · obtain ⟨a, C, fI, v, rfl, _⟩ := h
    rfl
  · obtain ⟨a, C, fI, v, rfl, T, hn, ea, q⟩ := h
    refine ⟨_, pss_one (ps_ostG (pv 0) (pv 1)), ?_⟩
    refine ⟨_, rfl, _, rfl, a, C, fI, rfl, T, hn, .inl ⟨ea, fun dx n ne => ?_⟩⟩
    refine q _ dx (fun b o hb e => ?_) upd_same (by rw [upd_ne ne, upd_same]) n ne
    rw [upd_ne hb, upd_ne (ne_of_none e n)]
    exact e
theorem er_IS {x : Str} {C f : Addr} {fd : FuncData} (F : Fun K "__init__" "InvalidStep.__init__" sIS f fd) (g : mg x = some (.ref C)) (o : OexG K C f) (no : PySem.W.findIn K (.ref C) "index" = some none) : Er P w K mg base x "index" C f fd :=
  ⟨g, o, no, ok_IS F, F.binds (ps := ["self", "index"]) fun _ _ _ _ _ _ us hl => match us, hl with | [_, _], _ => rfl⟩
/-- where a row's first fault lies -/
def fault (rs : List (Option Step)) : Option V :=
  match rs.findIdx? Option.isNone with
  | some i => some (.int (i : Nat))
  | none => if rs.length > 8 then some .non else
    match (wrongs (rs.filterMap id) [] []).findIdx? id with
    | some i => some (.int (i : Nat))
    | none => none
/-- any value, and the step that it is -/
def SVG (K : PySem.W.Frag) (d : Addr) (H : Hp) (v : V) (r : Option Step) : Prop := SV K d H v r ∧ ∀ s, r = some s → GoodS s
theorem SVG.same {K : PySem.W.Frag} {d : Addr} {H H' : Hp} (e : Same H H') {v : V} {r : Option Step} (h : SVG K d H v r) : SVG K d H' v r := ⟨h.1.same e, h.2⟩
theorem steps_of {K : PySem.W.Frag} {d : Addr} {H : Hp} : ∀ {xs : List V} {ss : List Step}, All2 (SVG K d H) xs (ss.map some) → StepsAt K H xs ss
  | [], [], _ => .nil
  | x :: xs, s :: ss, .cons h t => .cons h.1.step (steps_of t)
theorem good_of {K : PySem.W.Frag} {d : Addr} {H : Hp} : ∀ {xs : List V} {ss : List Step}, All2 (SVG K d H) xs (ss.map some) → ∀ s ∈ ss, GoodS s
  | [], [], _ => fun s hs => by cases hs
  | x :: xs, s :: ss, .cons h t => fun s' hs => by
    rcases List.mem_cons.mp hs with rfl | hs
    · exact h.2 _ rfl
    · exact good_of t s' hs
def spCheck (K : PySem.W.Frag) (d CI : Addr) : Sp := fun vs H Q E => ∃ (a : Addr) (xs : List V) (rs : List (Option Step)), vs = [.ref a] ∧ SqT K H a xs ∧ All2 (SVG K d H) xs rs ∧ rs.length ≤ 800 ∧
  (fault rs = none → ∀ H', Same H H' → Q .non H') ∧ (∀ v, fault rs = some v → ∀ t H', Left H "index" v t H' → E (.ref CI) (some t) H')
abbrev sCh : Stmt := top 21
theorem scCh : FnScope ["steps", "index", "step", "wrong"] ["steps"] (defScope sCh) := ⟨rfl, rfl, rfl, by decide +kernel, rfl, by decide +kernel, by decide +kernel⟩
theorem ok_check {f fS fW d CI fI : Addr} {fd fdS fdW fdI : FuncData} (F : Fun K "check_steps" "check_steps" sCh f fd) (GS : FnOk P w K mg base CX0 2 fS fdS ["value"] (spStep K d)) (TS : Called K mg "is_step" ["value"] fS fdS)
    (GW : FnOk P w K mg base CX0 2 fW fdW ["items", "around"] (spWL K)) (TW : Called K mg "wrong_locks" ["items", "around"] fW fdW) (T : Er P w K mg base "InvalidStep" "index" CI fI fdI) {tM : Tok} (mM : mg "MOST_STEPS" = some (.int 8 tM))
    (m_enumerate : mg "enumerate" = none) (m_len : mg "len" = none) : FnOk P w K mg base (L2.CX P w) 3 f fd ["steps"] (spCheck K d CI) := by
  refine F.okX scCh (fun vs H Q E h => ?_) (fun cdv A outer s H vs Q E hr h => ?_)
  · obtain ⟨a, xs, rs, rfl, _⟩ := h
    rfl
  · obtain ⟨a, xs, rs, rfl, hx, hrs, hz, q, qE⟩ := h
    refine ⟨_, (pss_cons (ps_for (passes_of rfl) rfl (pi_enumT rfl m_enumerate (pa_cons (pv 0) pa_nil)) (pg_tup rfl (pgs_cons (pg_name (i := 1) scCh.nd rfl (.inl rfl)) (pgs_cons (pg_name (i := 2) scCh.nd rfl (.inl rfl)) pgs_nil)))
       (pss_one (ps_if (pt_not (pt_val (pe_call GS (hr.mono (by decide)) rfl TS.1 TS.2.1 TS.2.2 .nil pass0 (pa_cons (pv 2) pa_nil))))
       (pss_one (ps_raise rfl (takes_of rfl rfl rfl rfl) (pmk_G T.o T.F (hr.mono (by decide)) T.b pass0 rfl T.g (pa_cons (pv 1) pa_nil))))
       pss_nil)))
       (pss_cons (ps_if (pt_cmpR op_gt (pe_callB call_len_seq (by rfl) m_len PySem.boot_len (pa_cons (pv 0) pa_nil)) (pe_glob (v := .int 8) rfl mM ⟨_, rfl⟩) (nomark _))
       (pss_one (ps_raise rfl (takes_of rfl rfl rfl rfl) (pmk_G T.o T.F (hr.mono (by decide)) T.b pass0 rfl T.g (pa_cons pe_non pa_nil))))
       pss_nil)
       (pss_one (ps_for (passes_of rfl) rfl (pi_enum rfl m_enumerate (pa_cons (pe_call GW (hr.mono (by decide)) rfl TW.1 TW.2.1 TW.2.2 .nil pass0 (pa_cons (pv 0) (pa_cons (pe_tup pa_nil) pa_nil))) pa_nil)) (pg_tup rfl (pgs_cons (pg_name (i := 1) scCh.nd rfl (.inl rfl)) (pgs_cons (pg_name (i := 3) scCh.nd rfl (.inl rfl)) pgs_nil)))
       (pss_one (ps_if (pt_val (pv 3))
       (pss_one (ps_raise rfl (takes_of rfl rfl rfl rfl) (pmk_G T.o T.F (hr.mono (by decide)) T.b pass0 rfl T.g (pa_cons (pv 1) pa_nil))))
       pss_nil)))))), ?_⟩
    have len := hrs.length
    refine ⟨_, rfl, a, _, rfl, hx, for_enumT (K := K) (a := a) (xs := xs)
      (fun i σ H' => ∃ v1 v2 : Option V, σ = [some (.ref a), v1, v2, none] ∧ Same H H' ∧ ∀ j, j < i → ∃ s, rs[j]? = some (some s))
      ⟨none, none, rfl, Same.refl H, fun j hj => absurd hj (Nat.not_lt_zero j)⟩ ?_ ?_ ?_⟩
    · rintro i σ H' hi ⟨v1, v2, rfl, sm, _⟩
      exact sm.tupS hx
    · rintro i x σ H1 T1 hxi ⟨v1, v2, rfl, sm, al⟩ nT
      obtain ⟨r, hr1, hv⟩ := hrs.get hxi
      have u0 := same_upd (o := .tup [.int (i : Nat), x]) nT
      refine ⟨T1, _, rfl, SqT.of upd_same, rfl, _, _, rfl, _, _, rfl, rfl, ?_⟩
      refine ⟨_, rfl, x, r, rfl, hv.1.same (sm.trans u0), fun H2 s2 => ⟨_, rfl, ?_⟩⟩
      have sm2 := (sm.trans u0).trans s2
      cases r with
      | none =>
        refine iteT ⟨_, rfl, Nat.le_of_ble_eq_true rfl, fun e ne => raise1 T.o T.no ne fun t H' l => qE _ ?_ t H' (l.before sm2)⟩
        have e1 : rs.findIdx? Option.isNone = some i := by
          rw [List.findIdx?_eq_some_iff_getElem]
          obtain ⟨hi, he⟩ := List.getElem?_eq_some_iff.mp hr1
          refine ⟨hi, by rw [he]; rfl, fun j hj => ?_⟩
          obtain ⟨s', hs'⟩ := al j hj
          obtain ⟨hj2, he2⟩ := List.getElem?_eq_some_iff.mp hs'
          rw [he2]
          exact Bool.false_ne_true
        unfold fault
        rw [e1]
      | some st =>
        refine iteF ⟨_, _, rfl, sm2, fun j hj => ?_⟩
        by_cases e : j = i
        · exact ⟨st, by rw [e]; exact hr1⟩
        · exact al j (by omega)
    · rintro σ H1 ⟨v1, v2, rfl, sm, al⟩
      obtain ⟨ss, rfl⟩ := all_some rs fun j hj => al j (by omega)
      have e0 : (ss.map some).findIdx? Option.isNone = none := by
        rw [List.findIdx?_eq_none_iff]
        intro x hx
        obtain ⟨s', _, rfl⟩ := List.mem_map.mp hx
        rfl
      have e1 : (ss.map some).filterMap id = ss := by
        rw [List.filterMap_map]
        exact List.filterMap_some
      have hss : StepsAt K H xs ss := steps_of hrs
      have hg : ∀ s ∈ ss, GoodS s := good_of hrs
      rw [List.length_map] at hz len
      unfold fault at q qE
      rw [e0, e1, List.length_map] at q qE
      refine ⟨_, rfl, a, _, rfl, .inr (sm.tupS hx), _, _, rfl, rfl, _, rfl, ?_⟩
      by_cases h8 : (8 : Int) < (xs.length : Nat)
      · rw [decide_eq_true h8]
        have h9 : ss.length > 8 := by omega
        exact iteT ⟨Nat.le_of_ble_eq_true rfl, fun e ne => raise1 T.o T.no ne fun t H' l => qE _ (if_pos h9) t H' (l.before sm)⟩
      · rw [decide_eq_false h8]
        have h9 : ¬ ss.length > 8 := by omega
        rw [if_neg h9] at q qE
        refine iteF ?_
        refine ⟨_, rfl, Nat.zero_le _, fun z nz => ?_⟩
        have s3 := same_upd (o := HO.tup []) nz
        refine ⟨a, .ref z, xs, ss, [], rfl, (sm.trans s3).tupS hx, hss.same (sm.trans s3), hg, ⟨z, rfl, SqT.of upd_same⟩, by rw [List.length_nil]; omega, fun H3 p s4 _ hp => ?_⟩
        have sm3 := (sm.trans s3).trans s4
        refine ⟨p, _, rfl, SqL.of hp, for_enum (K := K) (a := p) (xs := (wrongs ss [] []).map V.bl)
          (fun i σ H' => ∃ v1 v3 : Option V, σ = [some (.ref a), v1, v2, v3] ∧ Same H3 H' ∧ ∀ j, j < i → (wrongs ss [] [])[j]? = some false)
          ⟨v1, none, rfl, Same.refl _, fun j hj => absurd hj (Nat.not_lt_zero j)⟩ (fun i σ H' _ ⟨_, _, _, s5, _⟩ => s5.seq (SqL.of hp)) ?_ ?_⟩
        · rintro i x σ H4 T4 hxi ⟨w1, w3, rfl, s5, al2⟩ nT4
          obtain ⟨b, hb, rfl⟩ : ∃ b, (wrongs ss [] [])[i]? = some b ∧ x = V.bl b := by
            rw [List.getElem?_map] at hxi
            cases e : (wrongs ss [] [])[i]? with
            | none => rw [e] at hxi; cases hxi
            | some z => rw [e] at hxi; exact ⟨z, rfl, (Option.some.inj hxi).symm⟩
          have u4 := same_upd (o := .tup [.int (i : Nat), .bl b]) nT4
          refine ⟨T4, _, rfl, .inl (.inl upd_same), rfl, _, _, rfl, _, _, rfl, rfl, ?_⟩
          refine ⟨_, rfl, _, rfl, ?_⟩
          cases b with
          | true =>
            refine iteT ⟨_, rfl, Nat.le_of_ble_eq_true rfl, fun e ne => raise1 T.o T.no ne fun t H' l => qE _ ?_ t H' (l.before ((sm3.trans s5).trans u4))⟩
            have e2 : (wrongs ss [] []).findIdx? id = some i := by
              rw [List.findIdx?_eq_some_iff_getElem]
              obtain ⟨hi, he⟩ := List.getElem?_eq_some_iff.mp hb
              refine ⟨hi, by rw [he]; rfl, fun j hj => ?_⟩
              obtain ⟨hj2, he2⟩ := List.getElem?_eq_some_iff.mp (al2 j hj)
              rw [he2]
              exact Bool.false_ne_true
            rw [e2]
          | false =>
            refine iteF ⟨_, _, rfl, s5.trans u4, fun j hj => ?_⟩
            by_cases e : j = i
            · rw [e]; exact hb
            · exact al2 j (by omega)
        · rintro σ H4 ⟨w1, w3, rfl, s5, al2⟩
          refine q ?_ _ (sm3.trans s5)
          have e2 : (wrongs ss [] []).findIdx? id = none := by
            rw [List.findIdx?_eq_none_iff]
            intro x hx
            obtain ⟨j, hj⟩ := List.getElem?_of_mem hx
            have hj2 : j < ((wrongs ss [] []).map V.bl).length := by
              rw [List.length_map]
              exact (List.getElem?_eq_some_iff.mp hj).1
            have z := al2 j hj2
            rw [hj] at z
            exact Option.some.inj z
          rw [e2]
end
end Rw

/-! R11 -/
/-! ### rows made, added, listed -/
namespace Rw
open PySem PySem.Spec PyProof.Rows L2
theorem passX {P : Program} {w : World} {K : PySem.W.Frag} {mg : Str → Option Value} {base : Heap} {N : List Str} {q : Str} {sc : Scope} {f : Addr} {cdv : Value} {A : Around} {outer : List Env} {s : Shared} {H : Hp} {E : XK} :
    Passes (L2.CX P w) (cxOf (L2.CX P w) P w K mg base N q sc f cdv A outer s H E) E := passes_call (takes_of rfl rfl rfl rfl) fun _ _ _ _ h => h
/-- what the top has written of the class Row -/
structure RowC (K : PySem.W.Frag) (mg : Str → Option Value) (C fI fA fR : Addr) : Prop where
  g : mg "Row" = some (.ref C)
  cl : Cls K C
  nS : NoAttr K C "_steps"
  nH : NoAttr K C "_held"
  mkC : Mk K C fI
  add : AddC K C fA fR
  ha : PySem.W.findIn K (.ref C) "__class__" = some (some (.builtin "object.__class__"))
  hn : PySem.W.specialIn K (.builtin "object.__class__") "__get__" = some (some (.builtin "getset_descriptor.__get__"))
  htk : PySem.W.takesIn K (.builtin "object.__class__") = some true
  hm : PySem.W.mroIn K C (.type "object") = some true
  kRow : PySem.W.kitOne K (.ref C) (.ref C) = some true
  kT : ∀ T ∈ ["NoneType", "bool", "int", "list", "str", "dict", "tuple"], PySem.W.kitOne K (.type T) (.ref C) = some false
  aT : ∀ T ∈ ["NoneType", "bool", "int", "list", "str", "dict", "tuple"], AddT K C T
  rT : RaddT K "tuple"
/-- what a row's steps are -/
def RowAt (K : PySem.W.Frag) (d : Addr) (H : Hp) : List V → List Step → Prop := All2 fun v s => SVG K d H v (some s)
theorem RowAt.same {K : PySem.W.Frag} {d : Addr} {H H' : Hp} (e : Same H H') {xs : List V} {ss : List Step} (h : RowAt K d H xs ss) : RowAt K d H' xs ss := All2.mono (fun _ _ t => SVG.same e t) h
theorem rowAt_of {K : PySem.W.Frag} {d : Addr} {H : Hp} : ∀ {xs : List V} {ss : List Step}, All2 (SVG K d H) xs (ss.map some) → RowAt K d H xs ss
  | [], [], _ => .nil
  | x :: xs, s :: ss, .cons h t => .cons h (rowAt_of t)
theorem of_rowAt {K : PySem.W.Frag} {d : Addr} {H : Hp} : ∀ {xs : List V} {ss : List Step}, RowAt K d H xs ss → All2 (SVG K d H) xs (ss.map some)
  | [], [], _ => .nil
  | x :: xs, s :: ss, .cons h t => .cons h (of_rowAt t)
/-- the row of the steps ss stands at a -/
def IsRow (K : PySem.W.Frag) (C d : Addr) (H : Hp) (a : Addr) (ss : List Step) : Prop := ∃ (dx p h : Addr) (xs ys : List V), H a = some (.ins C dx [("_steps", .ref p), ("_held", .ref h)]) ∧ SqT K H p xs ∧ RowAt K d H xs ss ∧ SqL K H h ys ∧ All2 (TxtT K H) ys (helds ss [] ++ [[], []])
theorem IsRow.same {K : PySem.W.Frag} {C d : Addr} {H H' : Hp} (e : Same H H') {a : Addr} {ss : List Step} (h : IsRow K C d H a ss) : IsRow K C d H' a ss := by
  obtain ⟨dx, p, hh, xs, ys, h1, h2, h3, h5, h6⟩ := h
  exact ⟨dx, p, hh, xs, ys, e _ _ h1, e.tupS h2, h3.same e, e.seq h5, h6.mono fun _ _ t => t.same e⟩
theorem but_of {x : Addr} {H H' : Hp} (s : Same H H') : SameBut x H H' := fun b o _ e => s b o e
theorem SameBut.trans {x : Addr} {H H1 H2 : Hp} (a : SameBut x H H1) (b : SameBut x H1 H2) : SameBut x H H2 := fun c o n e => b c o n (a c o n e)
theorem but_upd {x : Addr} {H : Hp} {u : HO} : SameBut x H (upd H x u) := fun b o n e => by
  rw [upd_ne n]
  exact e
theorem ne_of_ins {H : Hp} {x C dx a : Addr} {fs : List (Str × V)} {ys : List V} (hx : H x = some (.ins C dx fs)) (ha : H a = some (.lst ys)) : a ≠ x := fun e => by
  rw [e, hx] at ha
  cases ha
theorem sqT_but {K : PySem.W.Frag} {H H' : Hp} {x C dx a : Addr} {fs : List (Str × V)} {xs : List V} (b : SameBut x H H') (hx : H x = some (.ins C dx fs)) (h : SqT K H a xs) : SqT K H' a xs := by
  rcases h with (h | ⟨ob, h⟩) | h
  · exact .inl (.inl (b _ _ (fun e => by rw [e, hx] at h; cases h) h))
  · exact .inl (.inr ⟨ob, b _ _ (fun e => by rw [e, hx] at h; cases h) h⟩)
  · exact .inr h
theorem StepAt.but {K : PySem.W.Frag} {H H' : Hp} {x C dx : Addr} {fs : List (Str × V)} (b : SameBut x H H') (hx : H x = some (.ins C dx fs)) {v : V} {s : Step} (h : StepAt K H v s) : StepAt K H' v s := let ⟨p, e, q⟩ := h; ⟨p, e, sqT_but b hx q⟩
theorem SVG.but {K : PySem.W.Frag} {d : Addr} {H H' : Hp} {x C dx : Addr} {fs : List (Str × V)} (b : SameBut x H H') (hx : H x = some (.ins C dx fs)) {v : V} {s : Step} (h : SVG K d H v (some s)) : SVG K d H' v (some s) := by
  obtain ⟨h, g⟩ := h
  cases h with
  | good a c e f => exact ⟨.good (sqT_but b hx a) c e f, g⟩
theorem TxtT.but {K : PySem.W.Frag} {H H' : Hp} {x C dx : Addr} {fs : List (Str × V)} (b : SameBut x H H') (hx : H x = some (.ins C dx fs)) {v : V} {s : List Str} (h : TxtT K H v s) : TxtT K H' v s := let ⟨p, e, q⟩ := h; ⟨p, e, sqT_but b hx q⟩
theorem helds_len : ∀ (ss : List Step) (h : List Str), (helds ss h).length = ss.length
  | [], _ => rfl
  | s :: ss, h => congrArg (· + 1) (helds_len ss _)
theorem fault_none {rs : List (Option Step)} (h : fault rs = none) : ∃ ss : List Step, rs = ss.map some := by
  refine all_some rs fun j hj => ?_
  unfold fault at h
  split at h
  · cases h
  · rename_i e
    rw [List.findIdx?_eq_none_iff] at e
    have z := e _ (List.getElem_mem hj)
    rw [List.getElem?_eq_getElem hj]
    cases q : rs[j] with
    | none => rw [q] at z; cases z
    | some s => exact ⟨s, rfl⟩
/-- the row of some values, or what is raised for them -/
def Made (C CI d : Addr) (K : PySem.W.Frag) (H : Hp) (rs : List (Option Step)) (Q : VK) (E : XK) : Prop :=
  (fault rs = none → ∀ ss, rs = ss.map some → ∀ x H', Same H H' → IsRow K C d H' x ss → Q (.ref x) H') ∧ (∀ v, fault rs = some v → ∀ t H', Left H "index" v t H' → E (.ref CI) (some t) H')
def spRI (K : PySem.W.Frag) (d C CI : Addr) : Sp := fun vs H Q E => ∃ (x dx p : Addr) (xs : List V) (rs : List (Option Step)), vs = [.ref x, .ref p] ∧ H x = some (.ins C dx []) ∧ SqT K H p xs ∧ All2 (SVG K d H) xs rs ∧ rs.length ≤ 800 ∧
  (fault rs = none → ∀ ss, rs = ss.map some → ∀ H', SameBut x H H' → IsRow K C d H' x ss → Q .non H') ∧ (∀ v, fault rs = some v → ∀ t H', Left H "index" v t H' → E (.ref CI) (some t) H')
abbrev spStar (sp : Sp) : Sp := fun vs H Q E => ∃ ws rest, vs = ws ++ rest ∧ ws.length = 1 ∧ rest.length ≤ sizeLine ∧ ∀ p, H p = Option.none → sp (ws ++ [V.ref p]) (upd H p (.tup rest)) Q E
section
variable {P : Program} {w : World} {K : PySem.W.Frag} {mg : Str → Option Value} {base : Heap}
abbrev sRI : Stmt := inClass (top 24) 0
theorem scRI : FnScope ["self", "steps"] ["self", "steps"] (defScope sRI) := ⟨rfl, rfl, rfl, by decide +kernel, rfl, by decide +kernel, by decide +kernel⟩
theorem ok_RI {f fC fH d C CI fI fA fR : Addr} {fd fdC fdH : FuncData} (F : Fun K "__init__" "Row.__init__" sRI f fd) (T : RowC K mg C fI fA fR)
    (GC : FnOk P w K mg base (L2.CX P w) 3 fC fdC ["steps"] (spCheck K d CI)) (TC : Called K mg "check_steps" ["steps"] fC fdC)
    (GH : FnOk P w K mg base CX0 2 fH fdH ["items", "around"] (spHeld K)) (TH : Called K mg "held_along" ["items", "around"] fH fdH) : FnR P w K mg base (L2.CX P w) 4 f (spStar (spRI K d C CI)) := by
  obtain ⟨oc, od, kV, doc, pm, an, cdv, ct, osl, rfl, lk, hcd⟩ := F.ex
  refine StX.fn_star (ps := ["self"]) (pv := "steps") (N := ["self", "steps"]) lk hcd scRI StX.cxUp (fun us rest hl => match us, rest, hl with | [u], [], _ => rfl | [u], a :: r, _ => rfl) fun A outer s H vs Q E hr h => ?_
  obtain ⟨x, dx, p, xs, rs, rfl, hx, hp, hrs, hz, q, qE⟩ := h
  refine ⟨_, (pss_cons (ps_expr (pe_call GC (hr.mono (by decide)) rfl TC.1 TC.2.1 TC.2.2 .nil passX (pa_cons (pv 1) pa_nil)))
       (pss_cons (ps_fld (pv 0) (pv 1) rfl)
       (pss_one (ps_fld (pv 0) (pe_op op_cat (pe_call GH (hr.mono (by decide)) rfl TH.1 TH.2.1 TH.2.2 .nil pass0 (pa_cons (pv 1) (pa_cons (pe_tup pa_nil) pa_nil))) (pe_lst (pa_cons (pe_tup pa_nil) (pa_cons (pe_tup pa_nil) pa_nil)))) rfl)))), ?_⟩
  refine ⟨_, rfl, p, xs, rs, rfl, hp, hrs, hz, fun hf H1 s1 => ?_, fun v hv t H' l => qE v hv t H' l⟩
  obtain ⟨ss, rfl⟩ := fault_none hf
  have hss : StepsAt K H xs ss := steps_of hrs
  have hg : ∀ s ∈ ss, GoodS s := good_of hrs
  rw [List.length_map] at hz
  have hx1 := s1 _ _ hx
  refine ⟨_, rfl, _, rfl, x, C, dx, [], rfl, hx1, T.cl, T.nS, by decide, ?_⟩
  have b1 : SameBut x H (upd H1 x (.ins C dx (putF "_steps" (.ref p) []))) := (but_of s1).trans but_upd
  have hx2 : (upd H1 x (.ins C dx (putF "_steps" (.ref p) []))) x = some (.ins C dx [("_steps", .ref p)]) := upd_same
  generalize upd H1 x (.ins C dx (putF "_steps" (.ref p) [])) = H2 at b1 hx2
  refine ⟨_, rfl, Nat.zero_le _, fun z nz => ?_⟩
  have s3 := same_upd (o := HO.tup []) nz
  have hss2 : StepsAt K H2 xs ss := hss.mono fun _ _ t => StepAt.but b1 hx t
  refine ⟨p, .ref z, xs, ss, [], rfl, s3.tupS (sqT_but b1 hx hp), hss2.same s3, fun s hs => (hg s hs).pl, ⟨z, rfl, SqT.of upd_same⟩, by rw [List.length_nil]; omega, fun H3 l ys s4 nl hl hys => ?_⟩
  refine ⟨Nat.zero_le _, fun z1 nz1 => ⟨Nat.zero_le _, fun z2 nz2 => ⟨by show 2 ≤ sizeLine; decide, fun l2 nl2 => ?_⟩⟩⟩
  have s5 := same_upd (o := HO.tup []) nz1
  have s6 := same_upd (o := HO.tup []) nz2
  have s7 := same_upd (o := HO.lst [V.ref z1, V.ref z2]) nl2
  have t1 : TxtT K (upd (upd (upd H3 z1 (HO.tup [])) z2 (HO.tup [])) l2 (HO.lst [V.ref z1, V.ref z2])) (.ref z1) [] := ⟨z1, rfl, SqT.of (s7 _ _ (s6 _ _ upd_same))⟩
  have t2 : TxtT K (upd (upd (upd H3 z1 (HO.tup [])) z2 (HO.tup [])) l2 (HO.lst [V.ref z1, V.ref z2])) (.ref z2) [] := ⟨z2, rfl, SqT.of (s7 _ _ upd_same)⟩
  have e7 : (upd (upd (upd H3 z1 (HO.tup [])) z2 (HO.tup [])) l2 (HO.lst [V.ref z1, V.ref z2])) l2 = some (.lst [V.ref z1, V.ref z2]) := upd_same
  have s37 := (s5.trans s6).trans s7
  generalize upd (upd (upd H3 z1 (HO.tup [])) z2 (HO.tup [])) l2 (HO.lst [V.ref z1, V.ref z2]) = H7 at s37 t1 t2 e7 s7
  have yl := hys.length
  rw [helds_len] at yl
  refine ⟨l, l2, ys, _, rfl, rfl, s37 _ _ hl, e7, ?_, fun l3 nl3 => ?_⟩
  · rw [sizeLine_eq]
    show ys.length + 2 ≤ _
    omega
  have s8 := same_upd (o := HO.lst (ys ++ [V.ref z1, V.ref z2])) nl3
  have e8 : (upd H7 l3 (.lst (ys ++ [V.ref z1, V.ref z2]))) l3 = some (.lst (ys ++ [V.ref z1, V.ref z2])) := upd_same
  generalize upd H7 l3 (.lst (ys ++ [V.ref z1, V.ref z2])) = H8 at s8 e8
  have s38 := s37.trans s8
  have s28 := (s3.trans s4).trans s38
  have hx8 := s28 _ _ hx2
  refine ⟨_, rfl, x, C, dx, [("_steps", .ref p)], rfl, hx8, T.cl, T.nH, by show 1 < 1000; decide, ?_⟩
  have b9 : SameBut x H8 (upd H8 x (.ins C dx (putF "_held" (.ref l3) [("_steps", .ref p)]))) := but_upd
  have b : SameBut x H (upd H8 x (.ins C dx (putF "_held" (.ref l3) [("_steps", .ref p)]))) := (b1.trans (but_of s28)).trans b9
  refine q hf ss rfl _ b ⟨dx, p, l3, xs, ys ++ [V.ref z1, V.ref z2], upd_same, sqT_but b hx hp, All2.mono (fun _ _ t => SVG.but b hx t) (rowAt_of hrs), ?_, ?_⟩
  · exact SqL.of (by rw [upd_ne (ne_of_ins hx8 e8)]; exact e8)
  · refine ((hys.mono fun _ _ t => t.same s38).append (.cons (t1.same s8) (.cons (t2.same s8) .nil))).mono fun _ _ t => TxtT.but b9 hx8 t
end
end Rw

/-! R12 -/
/-! ### rows made of tuples, added, listed -/
namespace Rw
open PySem PySem.Spec PyProof.Rows L2
theorem made_of {K : PySem.W.Frag} {d C CI : Addr} {H : Hp} {xs : List V} {rs : List (Option Step)} {Q : VK} {E : XK} (hrs : All2 (SVG K d H) xs rs) (hz : rs.length ≤ 800) (m : Made C CI d K H rs Q E) {x dx : Addr} (nx : H x = none) (nd : H dx = none) (ne : dx ≠ x) :
    spStar (spRI K d C CI) (.ref x :: xs) (upd (upd H dx (.own x)) x (.ins C dx [])) (fun v H2 => v = .non ∧ Q (.ref x) H2) E := by
  refine ⟨[.ref x], xs, rfl, rfl, by rw [hrs.length, sizeLine_eq]; omega, fun p np => ?_⟩
  have s0 : Same H (upd (upd H dx (.own x)) x (.ins C dx [])) := fun b o e => by
    rw [upd_ne (ne_of_none e nx), upd_ne (ne_of_none e nd)]
    exact e
  have e0 : (upd (upd H dx (.own x)) x (.ins C dx [])) x = some (.ins C dx []) := upd_same
  generalize upd (upd H dx (.own x)) x (.ins C dx []) = H1 at np s0 e0
  have s1 := same_upd (o := HO.tup xs) np
  refine ⟨x, dx, p, xs, rs, rfl, s1 _ _ e0, SqT.of upd_same, hrs.mono fun _ _ t => t.same (s0.trans s1), hz, fun hf ss e H' b r => ⟨rfl, m.1 hf ss e x H' (fun b' o hb => ?_) r⟩, fun v hv t H' l => m.2 v hv t H' (l.before (s0.trans s1))⟩
  exact b b' o (ne_of_none hb nx) ((s0.trans s1) b' o hb)
theorem cat_any {K : PySem.W.Frag} {H : Hp} {a b : Addr} {xs ys : List V} {Q : VK} (ha : SqT K H a xs) (hb : SqT K H b ys) (hl : xs.length + ys.length ≤ 1000) (q : ∀ H' p, Same H H' → SqT K H' p (xs ++ ys) → Q (.ref p) H') : rCatA K (.ref a) (.ref b) H Q := by
  refine ⟨a, b, _, _, rfl, rfl, ha, hb, ?_, fun e => ?_, fun _ e => ?_, fun _ _ p np => ?_⟩
  · rw [sizeLine_eq]
    omega
  · subst e
    exact q H _ (Same.refl H) hb
  · subst e
    rw [List.append_nil] at q
    exact q H _ (Same.refl H) ha
  · exact q _ _ (same_upd np) (SqT.of upd_same)
/-- what is added to a row: a row, a tuple, any other thing -/
inductive Src (K : PySem.W.Frag) (C d : Addr) (H : Hp) : V → Option (List (Option Step)) → Prop
  | row {a : Addr} {ss : List Step} : IsRow K C d H a ss → Src K C d H (.ref a) (some (ss.map some))
  | tup {p : Addr} {xs : List V} {rs : List (Option Step)} : SqT K H p xs → All2 (SVG K d H) xs rs → Src K C d H (.ref p) (some rs)
  | other {v : V} {T : String} : TyX K H v (.type T) → T ∈ noTup → Src K C d H v none
theorem Src.same {K : PySem.W.Frag} {C d : Addr} {H H' : Hp} (e : Same H H') {v : V} {r : Option (List (Option Step))} (h : Src K C d H v r) : Src K C d H' v r := by
  cases h with
  | row h => exact .row (h.same e)
  | tup h g => exact .tup (e.tupS h) (g.mono fun _ _ t => t.same e)
  | other h g => exact .other (TyX_same e h) g
def spIn (K : PySem.W.Frag) (C d CI : Addr) : Sp := fun vs H Q E => ∃ (v : V) (r : Option (List (Option Step))), vs = [v] ∧ Src K C d H v r ∧ (∀ rs, r = some rs → ∀ p xs H', Same H H' → SqT K H' p xs → All2 (SVG K d H') xs rs → Q (.ref p) H') ∧ (r = none → ∀ t H', Left H "index" .non t H' → E (.ref CI) (some t) H')
/-- what comes of it -/
def Added (C CI d : Addr) (K : PySem.W.Frag) (H : Hp) (f : List (Option Step) → List (Option Step)) (r : Option (List (Option Step))) (Q : VK) (E : XK) : Prop :=
  (∀ rs, r = some rs → Made C CI d K H (f rs) Q E) ∧ (r = none → ∀ t H', Left H "index" .non t H' → E (.ref CI) (some t) H')
theorem Made.before {C CI d : Addr} {K : PySem.W.Frag} {H H' : Hp} {rs : List (Option Step)} {Q : VK} {E : XK} (s : Same H H') (m : Made C CI d K H rs Q E) : Made C CI d K H' rs Q E :=
  ⟨fun hf ss e x H2 s2 => m.1 hf ss e x H2 (s.trans s2), fun v hv t H2 l => m.2 v hv t H2 (l.before s)⟩
def spAdd (K : PySem.W.Frag) (C d CI : Addr) : Sp := fun vs H Q E => ∃ (a : Addr) (v : V) (ss : List Step) (r : Option (List (Option Step))), vs = [.ref a, v] ∧ IsRow K C d H a ss ∧ Src K C d H v r ∧ ss.length ≤ 300 ∧ (∀ rs, r = some rs → rs.length ≤ 300) ∧ Added C CI d K H (fun rs => ss.map some ++ rs) r Q E
def spRadd (K : PySem.W.Frag) (C d CI : Addr) : Sp := fun vs H Q E => ∃ (a : Addr) (v : V) (ss : List Step) (r : Option (List (Option Step))), vs = [.ref a, v] ∧ IsRow K C d H a ss ∧ Src K C d H v r ∧ ss.length ≤ 300 ∧ (∀ rs, r = some rs → rs.length ≤ 300) ∧ Added C CI d K H (fun rs => rs ++ ss.map some) r Q E
def spSteps (K : PySem.W.Frag) (C d : Addr) : Sp := fun vs H Q _ => ∃ (a : Addr) (ss : List Step), vs = [.ref a] ∧ IsRow K C d H a ss ∧ ∀ H' l xs, Same H H' → H l = none → H' l = some (.lst xs) → RowAt K d H' xs ss → Q (.ref l) H'
section
variable {P : Program} {w : World} {K : PySem.W.Frag} {mg : Str → Option Value} {base : Heap}
theorem row_ty {C d fI fA fR : Addr} (T : RowC K mg C fI fA fR) {H : Hp} {a : Addr} {ss : List Step} (h : IsRow K C d H a ss) : TyX K H (.ref a) (.ref C) := by
  obtain ⟨dx, p, hh, xs, ys, h1, _⟩ := h
  exact .base (.ins h1 T.cl T.ha T.hn T.htk T.hm)
abbrev sIn : Stmt := top 23
theorem scIn : FnScope ["value"] ["value"] (defScope sIn) := ⟨rfl, rfl, rfl, by decide +kernel, rfl, by decide +kernel, by decide +kernel⟩
theorem ok_in {f d C CI fI fA fR fE : Addr} {fd fdE : FuncData} (F : Fun K "steps_in" "steps_in" sIn f fd) (R : RowC K mg C fI fA fR) (T : Er P w K mg base "InvalidStep" "index" CI fE fdE) (m_isinstance : mg "isinstance" = none) (m_tuple : mg "tuple" = none) : FnOk P w K mg base (L2.CX P w) 3 f fd ["value"] (spIn K C d CI) := by
  refine F.okX scIn (fun vs H Q E h => ?_) (fun cdv A outer s H vs Q E hr h => ?_)
  · obtain ⟨v, r, rfl, _⟩ := h
    rfl
  · obtain ⟨v, r, rfl, hs, q, qE⟩ := h
    refine ⟨_, (pss_cons (ps_if (pt_val (pe_callB call_isi (by rfl) m_isinstance (by decide +kernel) (pa_cons (pv 0) (pa_cons (pe_glob (v := .ref C) rfl R.g rfl) pa_nil))))
       (pss_one (ps_ret (pe_fld (pv 0) rfl)))
       pss_nil)
       (pss_cons (ps_if (pt_not (pt_val (pe_callB call_isi (by rfl) m_isinstance (by decide +kernel) (pa_cons (pv 0) (pa_cons (pe_bltn (v := .ty "tuple") (by rfl) m_tuple (by decide +kernel) rfl) pa_nil)))))
       (pss_one (ps_raise rfl (takes_of rfl rfl rfl rfl) (pmk_G T.o T.F (hr.mono (by decide)) T.b pass0 rfl T.g (pa_cons pe_non pa_nil))))
       pss_nil)
       (pss_one (ps_ret (pv 0))))), ?_⟩
    have tup : PySem.W.kitOne K (.type "tuple") (.type "tuple") = some true := kit_ty (by decide +kernel)
    cases hs with
    | @row a ss h =>
      have ty := row_ty R h
      obtain ⟨dx, p, hh, xs, ys, h1, h2, h3, h5, h6⟩ := h
      exact ⟨_, rfl, _, _, _, _, _, rfl, .own _, ty, R.kRow, _, rfl, iteT ⟨_, rfl, a, C, dx, _, _, rfl, h1, R.cl, R.nS, rfl, q _ rfl p xs H (Same.refl H) h2 (of_rowAt h3)⟩⟩
    | @tup p xs rs h g =>
      refine ⟨_, rfl, _, _, _, _, _, rfl, .own _, tyx_tup h, R.kT "tuple" (by decide), _, rfl, iteF ?_⟩
      refine ⟨_, rfl, _, _, _, _, _, rfl, .ty _, tyx_tup h, tup, _, rfl, iteF ?_⟩
      exact ⟨_, rfl, q _ rfl p xs H (Same.refl H) h g⟩
    | @other _ T' ty hT =>
      have hT2 : T' ∈ ["NoneType", "bool", "int", "list", "str", "dict", "tuple"] := by
        simp only [noTup, List.mem_cons, List.mem_nil_iff, or_false] at hT ⊢
        rcases hT with rfl | rfl | rfl | rfl | rfl | rfl <;> simp
      have kt : PySem.W.kitOne K (.type T') (.type "tuple") = some false := by
        simp only [noTup, List.mem_cons, List.mem_nil_iff, or_false] at hT
        rcases hT with rfl | rfl | rfl | rfl | rfl | rfl <;> exact kit_ty (by decide +kernel)
      refine ⟨_, rfl, _, _, _, _, _, rfl, .own _, ty, R.kT T' hT2, _, rfl, iteF ?_⟩
      refine ⟨_, rfl, _, _, _, _, _, rfl, .ty _, ty, kt, _, rfl, iteT ?_⟩
      exact ⟨Nat.le_of_ble_eq_true rfl, fun e ne => raise1 T.o T.no ne fun t H' l => qE rfl t H' l⟩
abbrev sAdd : Stmt := inClass (top 24) 3
theorem scAdd : FnScope ["self", "other", "steps"] ["self", "other"] (defScope sAdd) := ⟨rfl, rfl, rfl, by decide +kernel, rfl, by decide +kernel, by decide +kernel⟩
theorem ok_add {f fN d C CI fI fR : Addr} {fd fdN : FuncData} (F : Fun K "__add__" "Row.__add__" sAdd f fd) (R : RowC K mg C fI f fR) (GI : FnR P w K mg base (L2.CX P w) 4 fI (spStar (spRI K d C CI)))
    (GN : FnOk P w K mg base (L2.CX P w) 3 fN fdN ["value"] (spIn K C d CI)) (TN : Called K mg "steps_in" ["value"] fN fdN) : FnOk P w K mg base (L2.CX P w) 6 f fd ["self", "other"] (spAdd K C d CI) := by
  refine F.okX scAdd (fun vs H Q E h => ?_) (fun cdv A outer s H vs Q E hr h => ?_)
  · obtain ⟨a, v, ss, r, rfl, _⟩ := h
    rfl
  · obtain ⟨a, v, ss, r, rfl, h, hs, l1, l2, q, qE⟩ := h
    refine ⟨_, (pss_cons (ps_set (i := 2) scAdd.nd rfl (.inl rfl) (pe_op op_catA (pe_fld (pv 0) rfl) (pe_call GN (hr.mono (by decide)) rfl TN.1 TN.2.1 TN.2.2 .nil passX (pa_cons (pv 1) pa_nil))))
       (pss_one (ps_ret (pe_makeS1 R.mkC GI hr rfl R.g passX (pv 2))))), ?_⟩
    obtain ⟨dx, p, hh, xs, ys, h1, h2, h3, h5, h6⟩ := h
    refine ⟨_, rfl, a, C, dx, _, _, rfl, h1, R.cl, R.nS, rfl, _, rfl, v, r, rfl, hs, fun rs hr p2 xs2 H2 s2 h2' g2 => ?_, fun hn t H' l => qE hn t H' l⟩
    have xl := h3.length
    have yl := g2.length
    have rl := l2 rs hr
    refine cat_any (s2.tupS h2) h2' (by omega) fun H3 p3 s3 h3' => ?_
    refine ⟨_, rfl, p3, _, rfl, .inl h3', fun x dx nx nd ne => ?_⟩
    refine made_of ((of_rowAt (h3.same (s2.trans s3))).append (g2.mono fun _ _ t => t.same s3)) ?_ ((q rs hr).before (s2.trans s3)) nx nd ne
    rw [List.length_append, List.length_map]
    omega
abbrev sRadd : Stmt := inClass (top 24) 4
theorem scRadd : FnScope ["self", "other", "steps"] ["self", "other"] (defScope sRadd) := ⟨rfl, rfl, rfl, by decide +kernel, rfl, by decide +kernel, by decide +kernel⟩
theorem ok_radd {f fN d C CI fI fA : Addr} {fd fdN : FuncData} (F : Fun K "__radd__" "Row.__radd__" sRadd f fd) (R : RowC K mg C fI fA f) (GI : FnR P w K mg base (L2.CX P w) 4 fI (spStar (spRI K d C CI)))
    (GN : FnOk P w K mg base (L2.CX P w) 3 fN fdN ["value"] (spIn K C d CI)) (TN : Called K mg "steps_in" ["value"] fN fdN) : FnOk P w K mg base (L2.CX P w) 6 f fd ["self", "other"] (spRadd K C d CI) := by
  refine F.okX scRadd (fun vs H Q E h => ?_) (fun cdv A outer s H vs Q E hr h => ?_)
  · obtain ⟨a, v, ss, r, rfl, _⟩ := h
    rfl
  · obtain ⟨a, v, ss, r, rfl, h, hs, l1, l2, q, qE⟩ := h
    refine ⟨_, (pss_cons (ps_set (i := 2) scRadd.nd rfl (.inl rfl) (pe_op op_catA (pe_call GN (hr.mono (by decide)) rfl TN.1 TN.2.1 TN.2.2 .nil passX (pa_cons (pv 1) pa_nil)) (pe_fld (pv 0) rfl)))
       (pss_one (ps_ret (pe_makeS1 R.mkC GI hr rfl R.g passX (pv 2))))), ?_⟩
    obtain ⟨dx, p, hh, xs, ys, h1, h2, h3, h5, h6⟩ := h
    refine ⟨_, rfl, v, r, rfl, hs, fun rs hr p2 xs2 H2 s2 h2' g2 => ?_, fun hn t H' l => qE hn t H' l⟩
    have xl := h3.length
    have yl := g2.length
    have rl := l2 rs hr
    refine ⟨_, rfl, a, C, dx, _, _, rfl, s2 _ _ h1, R.cl, R.nS, rfl, ?_⟩
    refine cat_any h2' (s2.tupS h2) (by omega) fun H3 p3 s3 h3' => ?_
    refine ⟨_, rfl, p3, _, rfl, .inl h3', fun x dx nx nd ne => ?_⟩
    refine made_of ((g2.mono fun _ _ t => t.same s3).append (of_rowAt (h3.same (s2.trans s3)))) ?_ ((q rs hr).before (s2.trans s3)) nx nd ne
    rw [List.length_append, List.length_map]
    omega
abbrev sSt : Stmt := inClass (top 24) 10
theorem scSt : FnScope ["self"] ["self"] (defScope sSt) := ⟨rfl, rfl, rfl, by decide +kernel, rfl, by decide +kernel, by decide +kernel⟩
theorem ok_steps {f d C fI fA fR : Addr} {fd : FuncData} (F : Fun K "steps" "Row.steps" sSt f fd) (R : RowC K mg C fI fA fR) (m_list : mg "list" = none) : FnOk P w K mg base CX0 1 f fd ["self"] (spSteps K C d) := by
  refine F.ok scSt (fun vs H Q E h => ?_) (fun cdv A outer s H vs Q E hr h => ?_)
  · obtain ⟨a, ss, rfl, _⟩ := h
    rfl
  · obtain ⟨a, ss, rfl, h, q⟩ := h
    refine ⟨_, (pss_one (ps_ret (pe_callTy call_list_of (by rfl) m_list (by decide +kernel) (pa_cons (pe_fld (pv 0) rfl) pa_nil)))), ?_⟩
    obtain ⟨dx, p, hh, xs, ys, h1, h2, h3, h5, h6⟩ := h
    refine ⟨_, rfl, a, C, dx, _, _, rfl, h1, R.cl, R.nS, rfl, p, _, rfl, .inr h2, fun l nl => ?_⟩
    exact q _ l xs (same_upd nl) nl upd_same (h3.same (same_upd nl))
end
end Rw

/-! R13 -/
namespace Rw
open PySem PySem.Spec PyProof.Rows L2
abbrev sNum : Stmt := top 39
theorem scN : FnScope ["_law_cell", "_law_salt", "_law_sizes", "_law_whole", "_law_left", "_law_result", "_law_k", "_law_one"] ["_law_cell", "_law_salt", "_law_sizes"] (defScope sNum) := ⟨rfl, rfl, rfl, by decide +kernel, rfl, by decide +kernel, by decide +kernel⟩
/-- what the numbers are: as many as the sizes, each below its size -/
def Drawn (sz ns : List Int) : Prop := ns.length = sz.length ∧ ∀ (i : Nat) (n : Int), sz[i]? = some n → ∃ x : Int, ns[i]? = some x ∧ 0 ≤ x ∧ x < n
def spNum (K : PySem.W.Frag) : Sp := fun vs H Q _ => ∃ (cell salt : Int) (a : Addr) (sz : List Int), vs = [.int cell, .int salt, .ref a] ∧ SqL K H a (sz.map V.int) ∧ sz.length ≤ 400 ∧ (∀ n ∈ sz, 1 ≤ n ∧ n < 2 ^ 200) ∧ 0 ≤ salt ∧ salt ≤ 1000000 ∧
  ∀ H' p ns, Same H H' → H p = none → H' p = some (.lst (ns.map V.int)) → Drawn sz ns → Q (.ref p) H'
theorem map_more (ns : List Int) (x : Int) : some (HO.lst (ns.map V.int ++ [V.int x])) = some (HO.lst ((ns ++ [x]).map V.int)) := by
  rw [List.map_append]
  rfl
theorem drawn_more {sz ns : List Int} {i : Nat} {n x : Int} (h : Drawn (sz.take i) ns) (hn : sz[i]? = some n) (x0 : 0 ≤ x) (x1 : x < n) : Drawn (sz.take (i + 1)) (ns ++ [x]) := by
  obtain ⟨h1, h2⟩ := h
  have hi : i < sz.length := by
    obtain ⟨z, _⟩ := List.getElem?_eq_some_iff.mp hn
    exact z
  have e : sz.take (i + 1) = sz.take i ++ [n] := by
    rw [List.take_add_one, hn]
    rfl
  have l1 : (sz.take i).length = i := by
    rw [List.length_take]
    omega
  rw [e]
  refine ⟨by rw [List.length_append, List.length_append, h1]; rfl, fun j m hm => ?_⟩
  by_cases hj : j < i
  · rw [List.getElem?_append_left (by omega)] at hm
    obtain ⟨y, y1, y2⟩ := h2 j m hm
    exact ⟨y, by rw [List.getElem?_append_left (by omega)]; exact y1, y2⟩
  · rw [List.getElem?_append_right (by omega), l1] at hm
    have ej : j = i := by
      obtain ⟨z, _⟩ := List.getElem?_eq_some_iff.mp hm
      simp at z
      omega
    subst ej
    rw [Nat.sub_self] at hm
    have em : n = m := Option.some.inj hm
    subst em
    exact ⟨x, by rw [List.getElem?_append_right (by omega), h1, l1, Nat.sub_self]; rfl, x0, x1⟩
section
variable {P : Program} {w : World} {K : PySem.W.Frag} {mg : Str → Option Value} {base : Heap}
theorem ok_num {f : Addr} {fd : FuncData} {k : Nat} (F : Fun K "_law_numbers" "_law_numbers" sNum f fd) (m_max : mg "max" = none) (m_range : mg "range" = none) (m_len : mg "len" = none) :
    FnOk P w K mg base CX0 (k + 1) f fd ["_law_cell", "_law_salt", "_law_sizes"] (spNum K) := by
  refine F.ok scN (fun vs H Q E h => ?_) (fun cdv A outer s H vs Q E hr h => ?_)
  · obtain ⟨c, s, a, sz, rfl, _⟩ := h
    rfl
  · obtain ⟨cell, salt, a, sz, rfl, hS, hlen, hsz, hs0, hs1, q⟩ := h
    refine ⟨_, (pss_cons (ps_set (i := 3) scN.nd rfl (.inl rfl) (pe_callB (call_max2 rfl) (by rfl) m_max (by decide +kernel) (pa_cons (pv 0) (pa_cons (pe_op op_sub (pe_un un_neg pe_int) (pv 0)) pa_nil))))
       (pss_cons (ps_set (i := 4) scN.nd rfl (.inl rfl) (pv 3))
       (pss_cons (ps_set (i := 5) scN.nd rfl (.inl rfl) (pe_lst pa_nil))
       (pss_cons (ps_for PassesOwn.never rfl (pi_range1 rfl m_range (pa_cons (pe_callB call_len_seq (by rfl) m_len PySem.boot_len (pa_cons (pv 2) pa_nil)) pa_nil)) (pg_name (i := 6) scN.nd rfl (.inl rfl))
       (pss_one (ps_if (PW.pt (pw_and (pt_cmpR op_ge (pv 3) (pe_op op_pow pe_int pe_int) (nomark _)) (pw_and1 (pt_cmpR op_gt (pv 4) pe_int (nomark _)))))
       (pss_cons (ps_expr (pe_bm PySem.F.plainAttrs_list PySem.F.slot_list_append PySem.F.type_list_append mt_append (pv 5) (pa_cons (pe_op op_modN (pv 4) (pe_ix ix_list (pv 2) (pv 6) (fun _ _ => rfl))) pa_nil)))
       (pss_one (ps_set (i := 4) scN.nd rfl (.inl rfl) (pe_op op_fdivW (pv 4) (pe_ix ix_list (pv 2) (pv 6) (fun _ _ => rfl))))))
       (pss_cons (ps_set (i := 7) scN.nd rfl (.inl rfl) (pe_op op_mod (pe_op op_pow (pe_op op_add (pe_op op_add (pe_op op_mod (pv 3) pe_int) (pe_op op_mul pe_int (pv 1))) pe_int) pe_int) pe_int))
       (pss_cons (ps_set (i := 7) scN.nd rfl (.inl rfl) (pe_op op_mod (pe_op op_mul (pe_op op_add (pv 7) (pe_op op_mul pe_int (pe_op op_add (pv 6) pe_int))) (pe_op op_add (pv 6) pe_int)) pe_int))
       (pss_cons (ps_set (i := 7) scN.nd rfl (.inl rfl) (pe_op op_mod (pe_op op_mul (pe_op op_mod (pe_op op_pow (pv 7) pe_int) pe_int) pe_int) pe_int))
       (pss_one (ps_expr (pe_bm PySem.F.plainAttrs_list PySem.F.slot_list_append PySem.F.type_list_append mt_append (pv 5) (pa_cons (pe_op op_modN (pe_op op_fdiv (pv 7) pe_int) (pe_ix ix_list (pv 2) (pv 6) (fun _ _ => rfl))) pa_nil))))))))))
       (pss_one (ps_ret (pv 5))))))), ?_⟩
    -- whole
    refine ⟨_, rfl, _, rfl, _, rfl, _, _, rfl, rfl, _, _, rfl, ?_⟩
    generalize hwh : (if -1 - cell > cell then -1 - cell else cell) = whole
    -- left
    refine ⟨_, rfl, ?_⟩
    -- result
    refine ⟨Nat.zero_le _, fun o no => ?_⟩
    have s1 : Same H (upd H o (.lst [])) := same_upd no
    -- range(len(sizes))
    refine ⟨_, rfl, a, _, rfl, .inl (s1.seq hS), _, rfl, ?_, ?_, ?_⟩
    · omega
    · rw [List.length_map]; omega
    have hw : 0 ≤ whole := by
      rw [← hwh]
      split <;> omega
    refine for_range (lo := 0) (n := (((sz.map V.int).length : Nat) : Int).toNat)
      (fun i σ H' => ∃ (left : Int) (ns : List Int) (v6 v7 : Option V), σ = [some (.int cell), some (.int salt), some (.ref a), some (.int whole), some (.int left), some (.ref o), v6, v7] ∧ 0 ≤ left ∧ Same H H' ∧
        H' o = some (.lst (ns.map V.int)) ∧ Drawn (sz.take i) ns)
      ⟨whole, [], none, none, rfl, hw, s1, upd_same, rfl, fun i n e => by simp at e⟩ ?_ ?_
    · rintro i σ H' hi ⟨left, ns, v6, v7, rfl, hl, sm, ho, hd⟩
      have hi' : i < sz.length := by
        rw [List.length_map] at hi
        omega
      have hSi : SqL K H' a (sz.map V.int) := sm.seq hS
      obtain ⟨n, hn⟩ : ∃ n, sz[i]? = some n := ⟨_, List.getElem?_eq_getElem hi'⟩
      obtain ⟨n1, n2⟩ := hsz n (List.mem_of_getElem? hn)
      have hat : atI (sz.map V.int) ((0 : Int) + i) = some (V.int n) := by
        rw [Int.zero_add]
        refine atI_nat ?_
        rw [List.getElem?_map, hn]
        rfl
      have more : ∀ x, 0 ≤ x → x < n → Drawn (sz.take (i + 1)) (ns ++ [x]) := fun x x0 x1 => drawn_more hd hn x0 x1
      have nsl : ns.length = i := by
        have z := hd.1
        rw [List.length_take] at z
        omega
      have room : (ns.map V.int).length < sizeLine := by
        rw [List.length_map]
        exact small1000 (by omega)
      have stay : ∀ u, Same H (upd H' o u) := fun u b z e => by
        rw [upd_ne (ne_of_none e no)]
        exact sm b z e
      -- whole >= 10 ** 18 and left > 0
      refine ⟨_, rfl, _, _, rfl, rfl, ⟨by decide, by decide, by decide⟩, _, _, rfl, rfl, _, rfl, ?_⟩
      refine ite2 (fun c1 => ?_) (fun c1 => ?_)
      · refine ⟨_, rfl, _, _, rfl, rfl, _, rfl, ite2 (fun c2 => ?_) (fun c2 => ?_)⟩
        · refine ⟨_, rfl, .inl ⟨rfl, _, .inl (.inl ho)⟩, _, rfl, _, rfl, _, rfl, a, _, _, _, rfl, rfl, hSi, hat, _, _, rfl, rfl, (by omega), o, _, _, rfl, rfl, ho, room, ?_⟩
          refine ⟨_, rfl, _, rfl, _, rfl, a, _, _, _, rfl, rfl, (stay _).seq hS, hat, _, _, rfl, rfl, wide_div (by omega) (b := 200) (by omega) (by decide) (by decide), ?_⟩
          exact ⟨left / n, _, _, _, rfl, Int.ediv_nonneg hl (by omega), stay _, by rw [upd_same, map_more], more _ (Int.fmod_nonneg_of_pos _ (by omega)) (Int.fmod_lt_of_pos _ (by omega))⟩
        · refine ⟨_, rfl, _, _, rfl, rfl, (by show (0 : Int) < 2147483629; decide), _, rfl, _, _, rfl, rfl, .inl ⟨by decide, by decide⟩, _, _, rfl, rfl, _, _, rfl, rfl, _, _, rfl, rfl, ⟨by decide, by decide, by omega⟩, _, _, rfl, rfl, (by show (0 : Int) < 2147483647; decide), ?_⟩
          refine ⟨_, rfl, _, rfl, _, _, rfl, rfl, _, _, rfl, rfl, .inl ⟨by decide, by decide⟩, _, _, rfl, rfl, _, rfl, _, _, rfl, rfl, _, _, rfl, rfl, .inr ⟨by omega, by omega⟩, _, _, rfl, rfl, (by show (0 : Int) < 2147483629; decide), ?_⟩
          refine ⟨_, rfl, _, _, rfl, rfl, ⟨by decide, by decide, by omega⟩, _, _, rfl, rfl, (by show (0 : Int) < 2147483647; decide), _, _, rfl, rfl, .inr ⟨by decide, by decide⟩, _, _, rfl, rfl, (by show (0 : Int) < 2147483629; decide), ?_⟩
          refine ⟨_, rfl, .inl ⟨rfl, _, .inl (.inl ho)⟩, _, rfl, _, _, rfl, rfl, ⟨by decide, by decide⟩, _, rfl, _, rfl, a, _, _, _, rfl, rfl, hSi, hat, _, _, rfl, rfl, (by omega), o, _, _, rfl, rfl, ho, room, ?_⟩
          exact ⟨left, _, _, _, rfl, hl, stay _, by rw [upd_same, map_more], more _ (Int.fmod_nonneg_of_pos _ (by omega)) (Int.fmod_lt_of_pos _ (by omega))⟩
      · refine ⟨_, rfl, _, _, rfl, rfl, (by show (0 : Int) < 2147483629; decide), _, rfl, _, _, rfl, rfl, .inl ⟨by decide, by decide⟩, _, _, rfl, rfl, _, _, rfl, rfl, _, _, rfl, rfl, ⟨by decide, by decide, by omega⟩, _, _, rfl, rfl, (by show (0 : Int) < 2147483647; decide), ?_⟩
        refine ⟨_, rfl, _, rfl, _, _, rfl, rfl, _, _, rfl, rfl, .inl ⟨by decide, by decide⟩, _, _, rfl, rfl, _, rfl, _, _, rfl, rfl, _, _, rfl, rfl, .inr ⟨by omega, by omega⟩, _, _, rfl, rfl, (by show (0 : Int) < 2147483629; decide), ?_⟩
        refine ⟨_, rfl, _, _, rfl, rfl, ⟨by decide, by decide, by omega⟩, _, _, rfl, rfl, (by show (0 : Int) < 2147483647; decide), _, _, rfl, rfl, .inr ⟨by decide, by decide⟩, _, _, rfl, rfl, (by show (0 : Int) < 2147483629; decide), ?_⟩
        refine ⟨_, rfl, .inl ⟨rfl, _, .inl (.inl ho)⟩, _, rfl, _, _, rfl, rfl, ⟨by decide, by decide⟩, _, rfl, _, rfl, a, _, _, _, rfl, rfl, hSi, hat, _, _, rfl, rfl, (by omega), o, _, _, rfl, rfl, ho, room, ?_⟩
        exact ⟨left, _, _, _, rfl, hl, stay _, by rw [upd_same, map_more], more _ (Int.fmod_nonneg_of_pos _ (by omega)) (Int.fmod_lt_of_pos _ (by omega))⟩
    · rintro σ H' ⟨left, ns, v6, v7, rfl, hl, sm, ho, hd⟩
      have e : (((sz.map V.int).length : Nat) : Int).toNat = sz.length := by
        rw [List.length_map]
        omega
      rw [e, List.take_length] at hd
      exact ⟨_, rfl, q H' o ns sm no ho hd⟩
end

end Rw

/-! R14 -/
/-! ### what the law draws -/
namespace Rw
open PySem PySem.Spec PyProof.Rows L2
/-- the pool at o -/
def PoolAt (H : Hp) (o q : Addr) : Prop := ∃ (at_ : Nat) (ns : List Int), H o = some (.lst [.ref q, .int (at_ : Nat)]) ∧ q ≠ o ∧ H q = some (.lst (ns.map V.int)) ∧ ns.length ≤ 1000 ∧ ∀ n ∈ ns, 0 ≤ n ∧ n < 1000
theorem PoolAt.same {H H' : Hp} {o q : Addr} (e : Same H H') (h : PoolAt H o q) : PoolAt H' o q := let ⟨a, ns, h1, h2, h3, h4⟩ := h; ⟨a, ns, e _ _ h1, h2, e _ _ h3, h4⟩
def spPool (K : PySem.W.Frag) : Sp := fun vs H Q _ => ∃ (cell salt many : Int), vs = [.int cell, .int salt, .int many] ∧ 0 ≤ salt ∧ salt ≤ 1000000 ∧ 0 ≤ many ∧ many ≤ 400 ∧ ∀ H' o q, Same H H' → H o = none → PoolAt H' o q → Q (.ref o) H'
def spDraw (K : PySem.W.Frag) : Sp := fun vs H Q _ => ∃ (o q : Addr) (many : Int), vs = [.ref o, .int many] ∧ PoolAt H o q ∧ 1 ≤ many ∧ many ≤ 1000 ∧ ∀ H' n, SameBut o H H' → PoolAt H' o q → 0 ≤ n → n < many → Q (.int n) H'
def spPick (K : PySem.W.Frag) : Sp := fun vs H Q _ => ∃ (o q l : Addr) (xs : List V), vs = [.ref o, .ref l] ∧ PoolAt H o q ∧ l ≠ o ∧ SqL K H l xs ∧ xs ≠ [] ∧ xs.length ≤ 1000 ∧ ∀ H' x, SameBut o H H' → PoolAt H' o q → x ∈ xs → Q x H'
theorem sqL_but {K : PySem.W.Frag} {H H' : Hp} {x a : Addr} {xs : List V} (b : SameBut x H H') (n : a ≠ x) (h : SqL K H a xs) : SqL K H' a xs := by
  rcases h with (h | ⟨ob, h⟩) | h
  · exact .inl (.inl (b _ _ n h))
  · exact .inl (.inr ⟨ob, b _ _ n h⟩)
  · exact .inr h
section
variable {P : Program} {w : World} {K : PySem.W.Frag} {mg : Str → Option Value} {base : Heap}
abbrev sPool : Stmt := top 40
theorem scPool : FnScope ["_law_cell", "_law_salt", "_law_many"] ["_law_cell", "_law_salt", "_law_many"] (defScope sPool) := ⟨rfl, rfl, rfl, by decide +kernel, rfl, by decide +kernel, by decide +kernel⟩
theorem ok_pool {f fN : Addr} {fd fdN : FuncData} (F : Fun K "_law_pool" "_law_pool" sPool f fd) (GN : FnOk P w K mg base CX0 1 fN fdN ["_law_cell", "_law_salt", "_law_sizes"] (spNum K)) (TN : Called K mg "_law_numbers" ["_law_cell", "_law_salt", "_law_sizes"] fN fdN) :
    FnOk P w K mg base CX0 2 f fd ["_law_cell", "_law_salt", "_law_many"] (spPool K) := by
  refine F.ok scPool (fun vs H Q E h => ?_) (fun cdv A outer s H vs Q E hr h => ?_)
  · obtain ⟨cell, salt, many, rfl, _⟩ := h
    rfl
  · obtain ⟨cell, salt, many, rfl, h1, h2, h3, h4, q⟩ := h
    refine ⟨_, (pss_one (ps_ret (pe_lst (pa_cons (pe_call GN (hr.mono (by decide)) rfl TN.1 TN.2.1 TN.2.2 .nil pass0 (pa_cons (pv 0) (pa_cons (pv 1) (pa_cons (pe_op op_rep (pe_lst (pa_cons pe_int pa_nil)) (pv 2)) pa_nil)))) (pa_cons pe_int pa_nil))))), ?_⟩
    refine ⟨_, rfl, _, rfl, by show 1 ≤ sizeLine; decide, fun z nz => ?_⟩
    have s1 := same_upd (o := HO.lst [V.int 420]) nz
    refine ⟨_, rfl, z, many, _, rfl, rfl, upd_same, by omega, by omega, ?_, fun y ny => ?_⟩
    · rw [sizeLine_eq]
      show 1 * many.toNat ≤ _
      omega
    have e0 : (List.replicate many.toNat [V.int 420]).flatten = (List.replicate many.toNat (420 : Int)).map V.int := by
      rw [List.map_replicate]
      induction many.toNat with
      | zero => rfl
      | succ n ih => rw [List.replicate_succ, List.replicate_succ, List.flatten_cons, ih]; rfl
    rw [e0]
    have s2 := same_upd (o := HO.lst ((List.replicate many.toNat (420 : Int)).map V.int)) ny
    refine ⟨cell, salt, y, _, rfl, SqL.of upd_same, by rw [List.length_replicate]; omega, fun n hn => ?_, h1, h2, fun H' p ns s3 _ hp dr => ?_⟩
    · rw [List.eq_of_mem_replicate hn]
      exact ⟨by decide, by decide⟩
    refine ⟨by show 2 ≤ sizeLine; decide, fun o no => ?_⟩
    have s4 := same_upd (o := HO.lst [V.ref p, V.int 0]) no
    have st := ((s1.trans s2).trans s3)
    have np : p ≠ o := ne_of_none hp no
    refine q _ o p (st.trans s4) (st.free no) ⟨0, ns, upd_same, np, s4 _ _ hp, ?_, fun n hn => ?_⟩
    · rw [dr.1, List.length_replicate]
      omega
    · obtain ⟨i, hi⟩ := List.getElem?_of_mem hn
      have hi2 : i < ns.length := (List.getElem?_eq_some_iff.mp hi).1
      have hi3 : i < (List.replicate many.toNat (420 : Int)).length := by rw [← dr.1]; exact hi2
      obtain ⟨x, x1, x2, x3⟩ := dr.2 i 420 (by rw [List.getElem?_eq_getElem hi3, List.getElem_replicate])
      rw [hi] at x1
      cases x1
      exact ⟨x2, by omega⟩
abbrev sDraw : Stmt := top 41
theorem scDraw : FnScope ["_law_pool_here", "_law_many", "_law_at"] ["_law_pool_here", "_law_many"] (defScope sDraw) := ⟨rfl, rfl, rfl, by decide +kernel, rfl, by decide +kernel, by decide +kernel⟩
theorem ok_draw {f : Addr} {fd : FuncData} (F : Fun K "_law_draw" "_law_draw" sDraw f fd) (m_len : mg "len" = none) (m_int : mg "int" = none) : FnOk P w K mg base CX0 1 f fd ["_law_pool_here", "_law_many"] (spDraw K) := by
  refine F.ok scDraw (fun vs H Q E h => ?_) (fun cdv A outer s H vs Q E hr h => ?_)
  · obtain ⟨o, q, many, rfl, _⟩ := h
    rfl
  · obtain ⟨o, p, many, rfl, ⟨at_, ns, ho, np, hp, hl, hn⟩, m1, m2, q⟩ := h
    refine ⟨_, (pss_cons (ps_set (i := 2) scDraw.nd rfl (.inl rfl) (pe_ix ix_list (pv 0) pe_int (fun _ _ => rfl)))
       (pss_cons (ps_asg (pe_op op_add (pv 2) pe_int) (pg_sub (pv 0) pe_int set_list))
       (pss_one (ps_ret (pe_ifExp (pt_cmpR op_lt (pv 2) (pe_callB call_len_seq (by rfl) m_len PySem.boot_len (pa_cons (pe_ix ix_list (pv 0) pe_int (fun _ _ => rfl)) pa_nil)) (nomark _))
       (pe_op op_modN (pe_callTy call_int1 (by rfl) m_int (by decide +kernel) (pa_cons (pe_ix ix_list (pe_ix ix_list (pv 0) pe_int (fun _ _ => rfl)) (pv 2) (fun _ _ => rfl)) pa_nil)) (pv 1))
       pe_int))))), ?_⟩
    refine ⟨_, rfl, o, _, _, _, rfl, rfl, SqL.of ho, rfl, ?_⟩
    refine ⟨_, rfl, _, _, rfl, rfl, _, rfl, o, _, 1, 1, rfl, rfl, ho, rfl, ?_⟩
    have e1 : (upd H o (.lst ([V.ref p, V.int (at_ : Nat)].set 1 (.int ((at_ : Int) + 1))))) o = some (.lst [.ref p, .int ((at_ + 1 : Nat) : Int)]) := upd_same
    have b1 : SameBut o H (upd H o (.lst ([V.ref p, V.int (at_ : Nat)].set 1 (.int ((at_ : Int) + 1))))) := but_upd
    generalize upd H o (.lst ([V.ref p, V.int (at_ : Nat)].set 1 (.int ((at_ : Int) + 1)))) = H1 at e1 b1
    have hp1 := b1 _ _ np hp
    have P1 : PoolAt H1 o p := ⟨at_ + 1, ns, e1, np, hp1, hl, hn⟩
    refine ⟨_, rfl, _, rfl, o, _, _, _, rfl, rfl, SqL.of e1, rfl, p, _, rfl, .inl (SqL.of hp1), _, _, rfl, rfl, _, rfl, ?_⟩
    by_cases h : ((at_ : Nat) : Int) < ((ns.map V.int).length : Nat)
    · rw [decide_eq_true h]
      refine iteT ?_
      rw [List.length_map] at h
      have hi : at_ < ns.length := by omega
      have hx : (ns.map V.int)[at_]? = some (V.int ns[at_]) := by rw [List.getElem?_map, List.getElem?_eq_getElem hi]; rfl
      refine ⟨_, rfl, o, _, _, _, rfl, rfl, SqL.of e1, rfl, _, rfl, p, _, _, _, rfl, rfl, SqL.of hp1, atI_nat hx, ?_⟩
      refine .inl ⟨_, rfl, _, rfl, _, _, rfl, rfl, by omega, ?_⟩
      exact q H1 _ b1 P1 (Int.fmod_nonneg_of_pos _ (by omega)) (Int.fmod_lt_of_pos _ (by omega))
    · rw [decide_eq_false h]
      exact iteF (q H1 0 b1 P1 (Int.le_refl _) (by omega))
abbrev sPick : Stmt := top 42
theorem scPick : FnScope ["_law_pool_here", "_law_some"] ["_law_pool_here", "_law_some"] (defScope sPick) := ⟨rfl, rfl, rfl, by decide +kernel, rfl, by decide +kernel, by decide +kernel⟩
theorem ok_pick {f fD : Addr} {fd fdD : FuncData} (F : Fun K "_law_pick" "_law_pick" sPick f fd) (GD : FnOk P w K mg base CX0 1 fD fdD ["_law_pool_here", "_law_many"] (spDraw K)) (TD : Called K mg "_law_draw" ["_law_pool_here", "_law_many"] fD fdD) (m_len : mg "len" = none) : FnOk P w K mg base CX0 2 f fd ["_law_pool_here", "_law_some"] (spPick K) := by
  refine F.ok scPick (fun vs H Q E h => ?_) (fun cdv A outer s H vs Q E hr h => ?_)
  · obtain ⟨o, q, l, xs, rfl, _⟩ := h
    rfl
  · obtain ⟨o, pq, l, xs, rfl, hp, n, hx, ne, hz, q⟩ := h
    refine ⟨_, (pss_one (ps_ret (pe_ix ix_list (pv 1) (pe_call GD (hr.mono (by decide)) rfl TD.1 TD.2.1 TD.2.2 .nil pass0 (pa_cons (pv 0) (pa_cons (pe_callB call_len_seq (by rfl) m_len PySem.boot_len (pa_cons (pv 1) pa_nil)) pa_nil))) (fun _ _ => rfl)))), ?_⟩
    have hpos : 0 < xs.length := List.length_pos_iff.mpr ne
    refine ⟨_, rfl, _, rfl, _, rfl, l, xs, rfl, .inl hx, o, pq, _, rfl, hp, by omega, by omega, fun H' i b hp' i0 i1 => ?_⟩
    have hi : i.toNat < xs.length := by omega
    refine ⟨l, xs, i, xs[i.toNat], rfl, rfl, sqL_but b n hx, ?_, q H' _ b hp' (List.getElem_mem hi)⟩
    have e : i = ((i.toNat : Nat) : Int) := by omega
    have z := atI_nat (xs := xs) (List.getElem?_eq_getElem hi)
    rw [← e] at z
    exact z
end
end Rw

/-! T2 -/
/-! ### what the law expects of a list -/
namespace Rw
open PySem PySem.Spec PyProof.Rows L2
/-- [.. for i, x in enumerate(list)] -/
theorem lc_enum {K : PySem.W.Frag} {a : Addr} {xs : List V} {g : TG} {tt : TT} {te : TE} {vs : List Nat} {σ : L2.St} {H1 : Hp} {D : Addr} {Qd : Hp → Prop} (Pv : Nat → Hp → Prop) (h0 : Pv 0 (upd H1 D (.lst []))) (hl : ∀ i H, i ≤ xs.length → Pv i H → SqL K H a xs)
    (hs : ∀ i x H T, xs[i]? = some x → Pv i H → H T = none → g (.ref T) (wipe σ vs) (upd H T (.tup [.int (i : Nat), x])) fun σ2 H2 => wipe σ2 vs = wipe σ vs ∧ tt σ2 H2 fun b H3 =>
      if b = true then te σ2 H3 fun y H4 => ∃ acc, H4 D = some (.lst acc) ∧ acc.length < sizeLine ∧ Pv (i + 1) (upd H4 D (.lst (acc ++ [y]))) else Pv (i + 1) H3) (hd : ∀ H, Pv xs.length H → Qd H) :
    ∃ W : Nat → Nat → Hp → Prop, (∃ m, W 0 m (upd H1 D (.lst []))) ∧ ∀ i m H, W i m H →
      ((Ite K a).stop i H ∧ Qd H) ∨ ((Ite K a).go i H ∧ ∃ Nx : Hp → Prop, (∀ H', Nx H' → ∃ m', m' < m ∧ W (i + 1) m' H') ∧ ∀ x H', (Ite K a).yld i H x H' → g x (wipe σ vs) H' fun σ2 H2 => wipe σ2 vs = wipe σ vs ∧ tt σ2 H2 fun b H3 =>
        if b = true then te σ2 H3 fun y H4 => ∃ acc, H4 D = some (.lst acc) ∧ acc.length < sizeLine ∧ Nx (upd H4 D (.lst (acc ++ [y]))) else Nx H3) := by
  refine ⟨fun i m H => m = xs.length - i ∧ i ≤ xs.length ∧ Pv i H, ⟨xs.length, by simp, Nat.zero_le _, h0⟩, ?_⟩
  rintro i m H ⟨rfl, hi, p⟩
  have q := hl i H hi p
  by_cases hlt : i < xs.length
  · refine .inr ⟨⟨xs, xs[i], q, by simp [hlt]⟩, Pv (i + 1), fun H' p' => ⟨xs.length - (i + 1), by omega, rfl, hlt, p'⟩, fun v H' y => ?_⟩
    obtain ⟨T, x, rfl, nT, rfl, hx⟩ := y
    exact hs i x H T (hx xs q) p nT
  · have e : i = xs.length := by omega
    subst e
    exact .inl ⟨⟨xs, q, Nat.le_refl _⟩, hd H p⟩
section
variable {P : Program} {w : World} {K : PySem.W.Frag} {mg : Str → Option Value} {base : Heap}
end
end Rw

/-! ### items as the program reads them -/
namespace L2
open PySem PySem.Spec PyProof.Rows
theorem call_list_K {X : Cx} {K : PySem.W.Frag} (hK : X.K = K) : CallR X (.type "list") (fun xs H Q => ∃ p ys, xs = [.ref p] ∧ (SqL K H p ys ∨ SqT K H p ys) ∧ ∀ l, H l = none → Q (.ref l) (upd H l (.lst ys))) := by
  subst hK
  exact call_list_of
theorem call_isiKK {X : Cx} {K : PySem.W.Frag} (hK : X.K = K) : CallR X (.builtin "isinstance") (rIsi K) := by
  subst hK
  exact call_isi
theorem op_in_seqKK {X : Cx} {K : PySem.W.Frag} (hK : X.K = K) : OpR X (compareOp .In) (rIn K false) := by
  subst hK
  exact op_in_seq
end L2
namespace Tr
open PySem PySem.Spec PyProof.Rows L2 Rw
section
variable {P : Program} {w : World} {K : PySem.W.Frag} {mg : Str → Option Value} {base : Heap}
end
end Tr

/-! ### repr of any data, where no repr is under way -/
namespace L2
open PySem PySem.Spec PyProof.Rows
/-- what repr(x) asks -/
def rReprD (K : PySem.W.Frag) : List V → Hp → VK → Prop := fun xs H Q => ∃ (x : V) (d : PyData), xs = [x] ∧ Dq K H x d ∧ (d.hasDict = false ∨ d = .dict []) ∧ d.showable = true ∧ d.depth ≤ 40 ∧ d.shown.length ≤ sizeLine ∧ Q (.str d.shown) H
theorem call_reprD {X : Cx} (hg : X.A.guards = some []) (hu : X.A.units + 64 < cLine) : CallR X (.builtin "repr") (rReprD X.K) := by
  intro pins s σ H xs us Q I r h
  obtain ⟨x, d, rfl, hd, hk, hs, hdep, hz, q⟩ := h
  obtain ⟨u, rfl, ru⟩ := vals1 r
  have last : ∀ {a : Addr} {as : List Addr}, u = .ref a → Reads s.heap (.ref a) d as → (d.hasDict = true → sysModules ∉ as) → wpAny (model X.prog X.w) X.A (call (.builtin "repr") [u]) (fun v s' => EP X pins σ Q v s') X.xe s := fun e rd no => by
    subst e
    exact PySem.repr_of_reads' rd hs no hg (by omega) (fun _ _ z => z) (fun h' t tk kk => ⟨.str d.shown, H, I.kept kk, ⟨_, rfl⟩, q⟩) hz
  cases hd with
  | non =>
    cases ru
    simp only [PyData.shown] at q
    exact PySem.P.repr_of_none ⟨.str _, H, I.tok _, ⟨_, rfl⟩, q⟩
  | bl b =>
    cases ru
    simp only [PyData.shown] at q
    refine PySem.P.repr_of_bool ⟨.str _, H, I.tok _, ⟨_, rfl⟩, ?_⟩
    cases b <;> exact q
  | int i =>
    obtain ⟨t, rfl⟩ := ru
    simp only [PyData.shown] at q
    exact PySem.P.repr_of_int (by simpa [PyData.showable] using hs) ⟨.str _, H, I.tok _, ⟨_, rfl⟩, q⟩
  | str y =>
    obtain ⟨t, rfl⟩ := ru
    simp only [PyData.shown] at q
    exact PySem.P.repr_of_str ⟨.str _, H, I.tok _, ⟨_, rfl⟩, q⟩ (by simpa only [PyData.shown] using hz)
  | lst hq ha =>
    have hz2 : ∀ t ∈ PyData.shownAll _, t.length ≤ sizeLine := fun t ht => Nat.le_trans (listText_mem_le ht) (by simpa only [PyData.shown] using hz)
    cases ru
    obtain ⟨its, rv, ⟨o, n, ho, hc, _, hd⟩, _⟩ := I.list hq
    obtain ⟨as, bs, hr, _⟩ := Dq.reprsAll I _ _ its ha rv (by simpa [PyData.showable] using hs) hz2
    exact last rfl (Reads.list ho hc hd hr) fun z => by
      rcases hk with k | k
      · rw [k] at z; cases z
      · cases k
  | tup hq ha =>
    have hz2 : ∀ t ∈ PyData.shownAll _, t.length ≤ sizeLine := fun t ht => Nat.le_trans (tupleText_mem_le ht) (by simpa only [PyData.shown] using hz)
    cases ru
    obtain ⟨its, rv, ⟨o, ho, hc, n, hd⟩, _⟩ := I.tuple hq
    obtain ⟨as, bs, hr, _⟩ := Dq.reprsAll I _ _ its ha rv (by simpa [PyData.showable] using hs) hz2
    exact last rfl (Reads.tuple ho hc hd hr) fun z => by
      rcases hk with k | k
      · rw [k] at z; cases z
      · cases k
  | @dic a ea =>
    cases ru
    obtain ⟨_, hsys, vs, kv, o, es, ep, h1, h2, h3⟩ := (show ObjOk X.prog X.w H s.heap a (.dK []) from I.hok a _ ea)
    cases kv
    have hes : es.toList = [] := List.eq_nil_of_length_eq_zero (by rw [PySem.Pairs.length h3.2.2.1]; rfl)
    refine last rfl (Reads.dict (kvs := []) h1 h2.1 h3.1 (by rw [hes]; exact .nil) (by rw [hes]; exact .nil)) fun _ z => ?_
    rcases List.mem_cons.mp z with z | z
    · rw [← z] at hsys
      simp at hsys
    · exact absurd z List.not_mem_nil
end L2
/-! ### static methods off their class -/
namespace L2
open PySem PySem.Spec PyProof.Rows
/-- C.m is a staticmethod: its record at p, its def at g -/
structure SMet (K : PySem.W.Frag) (C : Addr) (m : Str) (p g : Addr) : Prop where
  rd : PySem.W.readsIn K C (.type "type") = true
  ga : PySem.W.specialIn K (.ref C) "__getattribute__" = some (some (.builtin "type.__getattribute__"))
  at_ : PySem.W.findCls K (.ref C) (.type "type") m = some (.get (.builtin "staticmethod.__get__") (.ref p) .none (.ref C))
  rc : ∃ rest, PySem.W.recIn K p "staticmethod" = some (.ref g :: rest)
  kp : PySem.W.keepIn K (.ref g) = true
def tSMeth (C : Addr) (sp : Sp) (E : St → XK) (ta : TE) (t : TA) : TE := fun σ H Q => ta σ H fun x H1 => x = .ref C ∧ t σ H1 fun vs H2 => sp vs H2 Q (E σ)
section
variable {X : Cx} {pins : List (Addr × Obj)} {σ : St} {H : Hp} {s : Shared} {C p g : Addr} {m : Str} {pl : Sem Bool}
theorem getmethsm_ok {Q : Value × List Value → Shared → Prop} {A : Around} {E : Value → Shared → Prop} (I : Inv X pins σ H s) (k : SMet X.K C m p g) (h : ∀ s', Inv X pins σ H s' → Q (.ref g, []) s') : wpAny (model X.prog X.w) A (getMethod (.ref C) m pl) Q E s := by
  obtain ⟨rest, hp⟩ := k.rc
  refine PySem.W.method_cls I.kIn k.ga (PySem.W.cls_bind I.kIn k.rd k.at_ (wpAny_call (PySem.W.sm_get (s := { s with toks := s.toks + 1 }) I.kIn hp (PySem.W.handed_on rfl ?_))))
  exact h _ (I.tok _)
theorem run_fnRS {CX : CXT} {k : Nat} {sp : Sp} {E : XK} {Q : VK} {us : List Value} {vs : List V} (F : FnR X.prog X.w X.K X.mg X.base CX k g sp) (hr : Room k X.A) (hx : PassesAt CX X σ E) (I : Inv X pins σ H s) (r : Vals vs us) (h : sp vs H Q E) :
    wpAny (model X.prog X.w) X.A (call (.ref g) us) (EP X pins σ Q) X.xe s := by
  refine wpAny_call (codeAny_mono (F X.A X.stack s H us vs Q E hr I.env0 r h) fun r s' hq => ?_)
  cases r with
  | error e => exact hx pins H s e s' I hq
  | ok fl =>
    cases fl with
    | ret u => exact I.after hq
    | next => exact False.elim hq
    | brk => exact False.elim hq
    | cont => exact False.elim hq
variable {CX : CXT} {k : Nat} {sp : Sp} {E : St → XK} {o e : Expr} {es : List Expr} {ta : TE} {t : TA} {pos apos : Pos}
theorem pe_smeth (he : PE X o ta) (c : SMet X.K C m p g) (F : FnR X.prog X.w X.K X.mg X.base CX k g sp) (hr : Room k X.A) (hx : ∀ σ, PassesAt CX X σ (E σ)) (ha : PA X (e :: es) t)
    (hst : starEach (e :: es) X.env = (false, eval e X.env) :: starEach es X.env := by rfl) (hpl : (backTo pos (starEach es X.env)).any (·.1) = false := by rfl)
    (ht : eval (.Call (.Attribute o m apos) (e :: es) [] pos) X.env = (do
      let v ← eval o X.env
      standAt apos.atName
      let (f, first) ← holding [v] (getMethod v m pl)
      callWith pos f first (backTo pos (starEach (e :: es) X.env)) (backToKw pos (keywordEach [] X.env))) := by rfl) :
    PE X (.Call (.Attribute o m apos) (e :: es) [] pos) (tSMeth C sp E ta t) := by
  refine ⟨fun pins s σ H Q I h => ?_⟩
  refine PySem.W.methodCall_KW (pl := pl) (thn (he.run pins s σ H _ I h) fun u s1 ⟨x, H1, I1, rx, ex, q⟩ => ?_) ht
  subst ex
  obtain rfl : u = Value.ref C := rx
  refine getmethsm_ok I1 c fun s2 I2 => ?_
  exact PySem.W.callWith_K (h₀ := X.base) I2.ok.mod.kin c.kp (thn (ha.run pos pins s2 σ H1 _ I2 q) fun us s3 ⟨vs, H2, I3, rv, q2⟩ => ⟨I3.kIn, run_fnRS F hr (hx σ) I3 rv q2⟩) hst hpl
end
/-! ### a def that is called where no repr is under way -/
section
variable {X : Cx} {CX : CXT} {k : Nat} {f : Addr} {fd : FuncData} {ps : List Str} {sp : Sp} {E : XK} {x : Str} {e : Expr} {es : List Expr} {t : TA} {p pos : Pos}
theorem pe_callG (F : FnOkG X.prog X.w X.K X.mg X.base CX k f fd ps sp) (free : X.A.guards = some []) (hr : Room k X.A) (hg : Gl X x) (hm : X.mg x = some (.ref f)) (hk : PySem.W.keepIn X.K (.ref f) = true) (hb : Binds X.K fd ps []) (hx : Passes CX X E)
    (ha : PA X (e :: es) t) (hdb : (x == ("__debug__" : Str)) = false := by decide) (he : starEach (e :: es) X.env = (false, eval e X.env) :: starEach es X.env := by rfl) (hpl : (backTo pos (starEach es X.env)).any (·.1) = false := by rfl) :
    PE X (.Call (.Name x p) (e :: es) [] pos) (tCall sp [] E t) := by
  refine ⟨fun pins s σ H Q I h => ?_⟩
  refine wpAny_Call_Name_kw (ld_glob I hg hm ?_ hdb)
  refine PySem.W.callWith_K (h₀ := X.base) I.ok.mod.kin hk (thn (ha.run pos pins s σ H _ I h) fun us s1 ⟨vs, H1, I1, r, q⟩ => ⟨I1.kIn, ?_⟩) he hpl
  have q2 : sp (vs ++ []) H1 Q E := q
  rw [List.append_nil] at q2
  have many : (us ++ []).length = ps.length := by rw [List.append_nil, ← r.length]; exact F.len _ _ _ _ q2
  have bind := hb s1 us I1.kIn many
  rw [List.append_nil] at bind
  refine wpAny_call (codeAny_mono (F.run X.A X.stack s1 H1 ⟨us, []⟩ us vs Q E free hr I1.env0 bind r q2) fun r s' hq => ?_)
  cases r with
  | error er => exact hx pins σ H1 s1 er s' I1 hq
  | ok fl =>
    cases fl with
    | ret u => exact I1.after hq
    | next => exact False.elim hq
    | brk => exact False.elim hq
    | cont => exact False.elim hq
end
end L2

/-! ### names of one kind -/
namespace L2
open PySem PySem.Spec PyProof.Rows
theorem ix_tupK {X : Cx} {K : PySem.W.Frag} (hK : X.K = K) : IxR X (rIxT K) := by
  subst hK
  exact ix_tup
theorem ix_listK {X : Cx} {K : PySem.W.Frag} (hK : X.K = K) : IxR X (rIxL K) := by
  subst hK
  exact ix_list
theorem ix_kdictK {X : Cx} {K : PySem.W.Frag} {w : World} (hK : X.K = K) (hw : X.w = w) : IxR X (rIxD K w) := by
  subst hK hw
  exact ix_kdict
end L2
namespace Rw
open PySem PySem.Spec PyProof.Rows L2
section
variable {P : Program} {w : World} {K : PySem.W.Frag} {mg : Str → Option Value} {base : Heap}
end
end Rw

/-! ### a method called within a try -/
namespace L2
open PySem PySem.Spec PyProof.Rows
def tMethT (C : Addr) (m : Str) (sp : Sp) (E : St → XK) (ta : TE) (t : TA) : TE := fun σ H Q => ta σ H fun x H1 => ∃ (a dx : Addr) (fs : List (Str × V)), x = .ref a ∧ H1 a = some (.ins C dx fs) ∧ fs.lookup m = none ∧ t σ H1 fun vs H2 => sp (x :: vs) H2 Q (E σ)
section
variable {X : Cx} {CX : CXT} {k : Nat} {f C : Addr} {fd : FuncData} {m : Str} {ps : List Str} {sp : Sp} {E : St → XK} {o e : Expr} {es : List Expr} {ta : TE} {t : TA} {apos pos : Pos} {pl : Sem Bool}
theorem pe_methT (he : PE X o ta) (c : Cls X.K C) (hm : Meth X.K C m f) (F : FnOk X.prog X.w X.K X.mg X.base CX k f fd ps sp) (hr : Room k X.A) (hb : Binds X.K fd ps []) (hx : ∀ σ, PassesAt CX X σ (E σ)) (ha : PA X (e :: es) t)
    (hst : starEach (e :: es) X.env = (false, eval e X.env) :: starEach es X.env := by rfl) (hpl : (backTo pos (starEach es X.env)).any (·.1) = false := by rfl)
    (ht : eval (.Call (.Attribute o m apos) (e :: es) [] pos) X.env = (do
      let v ← eval o X.env
      standAt apos.atName
      let (f, first) ← holding [v] (getMethod v m pl)
      callWith pos f first (backTo pos (starEach (e :: es) X.env)) (backToKw pos (keywordEach [] X.env))) := by rfl) : PE X (.Call (.Attribute o m apos) (e :: es) [] pos) (tMethT C m sp E ta t) := by
  refine ⟨fun pins s σ H Q I h => PySem.W.methodCall_KW (pl := pl) (thn (he.run pins s σ H _ I h) fun u s1 ⟨x, H1, I1, rx, a, dx, fs, ex, ea, l, q⟩ => ?_) ht⟩
  subst ex
  obtain rfl : u = Value.ref a := rx
  refine getmeth_ok I1 ea c hm l (PySem.W.callWith_K (first := [.ref a]) (h₀ := X.base) I1.ok.mod.kin hm.kp (thn (ha.run pos pins s1 σ H1 _ I1 q) fun us s2 ⟨vs, H2, I2, r, q2⟩ => ⟨I2.kIn, ?_⟩) hst hpl)
  exact run_fnS (us := .ref a :: us) (vs := .ref a :: vs) F hr hb (hx σ) I2 (.cons rfl r) q2
theorem call_reprDK {K : PySem.W.Frag} (hK : X.K = K) (hg : X.A.guards = some []) (hu : X.A.units + 64 < cLine) : CallR X (.builtin "repr") (rReprD K) := by
  subst hK
  exact call_reprD hg hu
theorem call_len_K {K : PySem.W.Frag} (hK : X.K = K) : CallR X (.builtin "len") (fun xs H Q => ∃ p ys, xs = [.ref p] ∧ (SqL K H p ys ∨ SqT K H p ys) ∧ Q (.int ys.length) H) := by
  subst hK
  exact call_len_seq
end
end L2
/-! ### what the law hears of rows by words -/
namespace Rw
open PySem PySem.Spec PyProof.Rows L2
theorem xf_of {K : PySem.W.Frag} {C fI : Addr} (T : OexG K C fI) : XfC K C := ⟨T.ga, T.gg, T.exC, T.hdC⟩
section
variable {P : Program} {w : World} {K : PySem.W.Frag} {mg : Str → Option Value} {base : Heap}
end
end Rw

/-! ### own + within a try -/
namespace L2
open PySem PySem.Spec PyProof.Rows
def tOpS (r : XK → R2) (E : St → XK) (ta tb : TE) : TE := fun σ H Q => ta σ H fun x H1 => tb σ H1 fun y H2 => r (E σ) x y H2 Q
section
variable {X : Cx} {CX : CXT} {k : Nat} {f g C : Addr} {fd : FuncData} {ps : List Str} {sp : Sp} {E : St → XK} {a b : Expr} {ta tb : TE} {pos : Pos}
theorem pe_addTS {K : PySem.W.Frag} (hK : X.K = K) (A : AddC K C f g) (F : FnOk X.prog X.w X.K X.mg X.base CX k f fd ps sp) (hr : Room k X.A) (hb : Binds X.K fd ps []) (hx : ∀ σ, PassesAt CX X σ (E σ)) (ha : PE X a ta) (hb' : PE X b tb) : PE X (.BinOp a .Add b pos) (tOpS (rAddT K C sp) E ta tb) := by
  subst hK
  refine ⟨fun pins s σ H Q I h => ?_⟩
  refine wpAny_BinOp (binT (R := fun x y H2 => rAddT X.K C sp (E σ) x y H2 Q) ha hb' I h fun v u s2 x y H2 I2 rx ry q => ?_)
  obtain ⟨a, dx, fs, T, rfl, ha, ty, ⟨⟨fo, ro, h1, h2⟩, hsub⟩, q⟩ := q
  cases (show v = Value.ref a from rx)
  obtain ⟨P, Z, pz, hne⟩ := kit_of I2 ry ty
  obtain ⟨mA, O, _⟩ := ins_get I2.hok ha
  obtain ⟨od, J, _⟩ := O.look
  refine PySem.LwX.add_own I2.kIn J (fun M => Z.ty M _ I2.kIn pz) A.hc A.hs A.hf A.hr (.inr ⟨_, rfl⟩) h1 h2 hsub ?_
  exact thn (run_fnS (us := [.ref a, u]) (vs := [.ref a, y]) F hr hb (hx σ) I2 (.cons rfl (.cons ry .nil)) q) fun _ _ z => back_ref z
theorem pe_raddTS {K : PySem.W.Frag} (hK : X.K = K) (A : AddC K C f g) (F : FnOk X.prog X.w X.K X.mg X.base CX k g fd ps sp) (hr : Room k X.A) (hb : Binds X.K fd ps []) (hx : ∀ σ, PassesAt CX X σ (E σ)) (ha : PE X a ta) (hb' : PE X b tb) : PE X (.BinOp a .Add b pos) (tOpS (rRaddT K C sp) E ta tb) := by
  subst hK
  refine ⟨fun pins s σ H Q I h => ?_⟩
  refine wpAny_BinOp (binT (R := fun x y H2 => rRaddT X.K C sp (E σ) x y H2 Q) ha hb' I h fun v u s2 x y H2 I2 rx ry q => ?_)
  obtain ⟨a, dx, fs, T, rfl, ha, ty, ⟨fo, ro, h1, h2, h3⟩, q⟩ := q
  cases (show u = Value.ref a from ry)
  obtain ⟨P, Z, pz, hne⟩ := kit_of I2 rx ty
  obtain ⟨mA, O, _⟩ := ins_get I2.hok ha
  obtain ⟨od, J, _⟩ := O.look
  refine PySem.LwX.radd_own I2.kIn J (fun M => Z.ty M _ I2.kIn pz) A.hc A.hs A.hr A.hg h1 h2 h3 ?_
  exact thn (run_fnS (us := [.ref a, v]) (vs := [.ref a, x]) F hr hb (hx σ) I2 (.cons rfl (.cons rx .nil)) q) fun _ _ z => back_ref z
theorem call_tuple_K {K : PySem.W.Frag} (hK : X.K = K) : CallR X (.type "tuple") (fun xs H Q => ∃ p ys, xs = [.ref p] ∧ (SqL K H p ys ∧ (∀ l, H l = none → Q (.ref l) (upd H l (.tup ys))) ∨ SqT K H p ys ∧ Q (.ref p) H)) := by
  subst hK
  exact call_tuple_of
end
end L2
/-! ### what is compared -/
namespace Rw
open PySem PySem.Spec PyProof.Rows L2
def vD : V → PyData
  | .int i => .int i
  | _ => .none
theorem ints_of_cut (ns : List Int) (m : Int) (k : Nat) : ∃ ms : List Int, cutV (ns.map V.int) none (some m) ++ (List.replicate k [V.int 7]).flatten = ms.map V.int ∧ ms.length ≤ ns.length + k := by
  refine ⟨((ns.drop (HT.sIx ns.length 0 none)).take (HT.sIx ns.length ns.length (some m) - HT.sIx ns.length 0 none)) ++ List.replicate k 7, ?_, ?_⟩
  · unfold cutV
    rw [List.map_append, List.length_map, List.map_take, List.map_drop]
    congr 1
    induction k with
    | zero => rfl
    | succ k ih => rw [List.replicate_succ, List.flatten_cons, ih]; rfl
  · rw [List.length_append, List.length_replicate, List.length_take, List.length_drop]
    omega
theorem shaped_ints (ns : List Int) : SeqAt.shaped (.list (ns.map PyData.int)) = true := by
  have a : PyData.canLayAll0 (ns.map PyData.int) = true := by
    induction ns with
    | nil => rfl
    | cons n r ih => simp only [List.map, PyData.canLayAll0, PyData.canLay0, Bool.true_and]; exact ih
  have b : PyData.depthAll (ns.map PyData.int) = 0 := by
    induction ns with
    | nil => rfl
    | cons n r ih =>
      simp only [List.map, PyData.canLayAll0, PyData.canLay0, Bool.true_and] at a
      simp only [List.map, PyData.depthAll, PyData.depth, ih a]
      rfl
  unfold SeqAt.shaped
  simp only [PyData.canLay0, PyData.depth, a, b]
  decide
theorem dp_ints {K : PySem.W.Frag} {H : Hp} : ∀ ns : List Int, DpAll K H (ns.map V.int) (ns.map PyData.int)
  | [] => .nil
  | _ :: r => .cons (.int _) (dp_ints r)
theorem nil_in {σ : L2.St} {H : Hp} {k : List V → Hp → Prop} (h : k [] H) : tNil σ H k := h
theorem cons_in {te : TE} {t : TA} {σ : L2.St} {H : Hp} {k : List V → Hp → Prop} (h : te σ H fun x H1 => t σ H1 fun xs H2 => k (x :: xs) H2) : tCons te t σ H k := h
theorem c_in {v : V} {σ : L2.St} {H : Hp} {k : V → Hp → Prop} (h : k v H) : tC v σ H k := h
theorem seq_in {t u : TS} {D : Ends} {σ : L2.St} {H : Hp} (h : t { D with nx := u D } σ H) : tSeq t u D σ H := h
theorem if_in {c : TT} {t u : TS} {D : Ends} {σ : L2.St} {H : Hp} (h : c σ H fun b H1 => if b = true then t D σ H1 else u D σ H1) : tIfS c t u D σ H := h
theorem or_in {t u : TT} {σ : L2.St} {H : Hp} {Q : Bool → Hp → Prop} (h : t σ H fun c H1 => if c = true then Q true H1 else u σ H1 Q) : tOr t u σ H Q := h
theorem test_in {t : TE} {σ : L2.St} {H : Hp} {Q : Bool → Hp → Prop} (h : t σ H fun x H' => ∃ k, x = .bl k ∧ Q k H') : tTest t σ H Q := h
theorem op_in {r : R2} {ta tb : TE} {σ : L2.St} {H : Hp} {Q : VK} (h : ta σ H fun x H1 => tb σ H1 fun y H2 => r x y H2 Q) : tOp r ta tb σ H Q := h
theorem call_in {sp : Sp} {E : XK} {t : TA} {σ : L2.St} {H : Hp} {Q : VK} (h : t σ H fun vs H1 => sp (vs ++ []) H1 Q E) : tCall sp [] E t σ H Q := h
theorem asg_in {te : TE} {g : TG} {D : Ends} {σ : L2.St} {H : Hp} (h : te σ H fun x H1 => g x σ H1 D.nx) : tAsg te g D σ H := h
theorem name_in {i : Nat} {v : V} {σ : L2.St} {H : Hp} {Q : L2.St → Hp → Prop} (h : Q (σ.set i (some v)) H) : gName i v σ H Q := h
theorem ops_in {r : XK → R2} {E : L2.St → XK} {ta tb : TE} {σ : L2.St} {H : Hp} {Q : VK} (h : ta σ H fun x H1 => tb σ H1 fun y H2 => r (E σ) x y H2 Q) : tOpS r E ta tb σ H Q := h
end Rw

/-! ### data stands where the heap stands -/
namespace Rw
open PySem PySem.Spec PyProof.Rows L2
section
variable {K : PySem.W.Frag} {H H' : Hp}
theorem sqT_same {a : Addr} {xs : List V} (s : Same H H') (h : SqT K H a xs) : SqT K H' a xs := by
  rcases h with (h | ⟨o, h⟩) | h
  · exact .inl (.inl (s _ _ h))
  · exact .inl (.inr ⟨o, s _ _ h⟩)
  · exact .inr h
mutual
theorem dq_same (s : Same H H') : ∀ (d : PyData) (v : V), Dq K H v d → Dq K H' v d
  | .none, _, h => by cases h; exact .non
  | .bool _, _, h => by cases h; exact .bl _
  | .int _, _, h => by cases h; exact .int _
  | .str _, _, h => by cases h; exact .str _
  | .list ds, _, h => by
    cases h with
    | lst h1 h2 => exact .lst (s.seq h1) (dqs_same s ds _ h2)
  | .tuple ds, _, h => by
    cases h with
    | tup h1 h2 => exact .tup (sqT_same s h1) (dqs_same s ds _ h2)
  | .dict _, _, h => by
    cases h with
    | dic h1 => exact .dic (s _ _ h1)
theorem dqs_same (s : Same H H') : ∀ (ds : List PyData) (vs : List V), DqAll K H vs ds → DqAll K H' vs ds
  | [], _, h => by cases h; exact .nil
  | d :: ds, _, h => by
    cases h with
    | cons h1 h2 => exact .cons (dq_same s d _ h1) (dqs_same s ds _ h2)
end
end
end Rw
/-! ### x in a tuple of data -/
namespace L2
open PySem PySem.Spec PyProof.Rows
def rInTD (K : PySem.W.Frag) : R2 := fun x y H Q => ∃ d ds, Dp K H x d ∧ Dp K H y (.tuple ds) ∧ SeqAt.shaped d = true ∧ SeqAt.shaped (.tuple ds) = true ∧ Q (.bl (ds.any fun z => PyData.eqv z d)) H
theorem op_inTD {X : Cx} {K : PySem.W.Frag} (hK : X.K = K) (hu : X.A.units + 65 < cLine) : OpR X (compareOp .In) (rInTD K) := by
  subst hK
  intro pins s σ H x y v u Q I rx ry h
  obtain ⟨d, ds, hd, he, sd, se, q⟩ := h
  obtain ⟨as, r1⟩ := Dp.reads I d x v hd rx
  obtain ⟨bs, r2⟩ := Dp.reads I (.tuple ds) y u he ry
  exact SeqAt.in_tuple_reads r2 r1 (SeqAt.canLay_of_shaped se) (SeqAt.canLay_of_shaped sd) (room_in_shaped sd hu) ⟨.bl _, H, I, rfl, q⟩
end L2
/-! ### a row's own operators -/
namespace Rw
open PySem PySem.Spec PyProof.Rows L2
section
variable {P : Program} {w : World} {K : PySem.W.Frag} {mg : Str → Option Value} {base : Heap}
end
end Rw

/-! ### a row without a step, beginnings, equal rows -/
namespace Rw
open PySem PySem.Spec PyProof.Rows L2
theorem cut_head (xs : List V) (i : Nat) (hi : i ≤ xs.length) : cutV xs none (some (i : Int)) = xs.take i := by
  show (xs.drop 0).take (HT.sIx xs.length xs.length (some (i : Int)) - 0) = _
  rw [HT.sIx_nat, List.drop_zero, Nat.min_eq_left hi]
  rfl
/-- t[:i] -/
theorem head_tup {K : PySem.W.Frag} {H : Hp} {p : Addr} {xs : List V} {i : Nat} {Q : VK} (h : SqT K H p xs) (q : ∀ H' u, Same H H' → SqT K H' u (xs.take i) → Q (.ref u) H') : rSlA K (.ref p) none (some (i : Int)) H Q := by
  refine ⟨p, _, rfl, h, fun c => ?_, fun c u nu => ?_⟩
  · have c2 := c.2
    rw [HT.sIx_nat] at c2
    have z := q H p (Same.refl H)
    rw [List.take_of_length_le (by omega)] at z
    exact z h
  · refine q _ _ (same_upd nu) (SqT.of ?_)
    rw [upd_same]
    show some (HO.tup ((xs.drop 0).take (HT.sIx xs.length xs.length (some (i : Int)) - 0))) = _
    rw [HT.sIx_nat, List.drop_zero, Nat.sub_zero]
    congr 2
    by_cases hi : i ≤ xs.length
    · rw [Nat.min_eq_left hi]
    · rw [Nat.min_eq_right (by omega), List.take_of_length_le (Nat.le_refl _), List.take_of_length_le (by omega)]
section
variable {P : Program} {w : World} {K : PySem.W.Frag} {mg : Str → Option Value} {base : Heap}
end
/-! two rows -/
section
variable {P : Program} {w : World} {K : PySem.W.Frag} {mg : Str → Option Value} {base : Heap}
end
end Rw

/-! ### what stands, stands behind the first look at a name -/
namespace Nm
open PySem PySem.Spec PyProof.Rows L2
section
variable {K : PySem.W.Frag} {C : Addr} {n : Str} {v : Value} {H : Hp}
end
theorem op_eqDK {X : Cx} {K : PySem.W.Frag} (hK : X.K = K) (hu : X.A.units + 64 < cLine) : OpR X (compareOp .Eq) (rEqD K) := by
  subst hK
  exact op_eqD hu
theorem op_neDK {X : Cx} {K : PySem.W.Frag} (hK : X.K = K) (hu : X.A.units + 64 < cLine) : OpR X (compareOp .NotEq) (rNeD K) := by
  subst hK
  exact op_neD hu
end Nm
/-! ### a row's own == -/
namespace Rw
open PySem PySem.Spec PyProof.Rows L2
section
variable {P : Program} {w : World} {K : PySem.W.Frag} {mg : Str → Option Value} {base : Heap}
end
end Rw

/-! ### the law's kinds, and what it takes as held -/
namespace Rw
open PySem PySem.Spec PyProof.Rows L2
theorem sqT_upd {K : PySem.W.Frag} {H : Hp} {D p : Addr} {as xs : List V} {u : HO} (e : H D = some (.lst as)) (h : SqT K H p xs) : SqT K (upd H D u) p xs := by
  rcases h with (h | ⟨o, h⟩) | h
  · refine .inl (.inl ?_)
    rw [upd_ne]
    · exact h
    · rintro rfl
      rw [e] at h
      cases h
  · refine .inl (.inr ⟨o, ?_⟩)
    rw [upd_ne]
    · exact h
    · rintro rfl
      rw [e] at h
      cases h
  · exact .inr h
section
variable {P : Program} {w : World} {K : PySem.W.Frag} {mg : Str → Option Value} {base : Heap}
end
end Rw

/-! ### the rows that the law draws: the def -/
namespace Rw
open PySem PySem.Spec PyProof.Rows L2
theorem ifS_via {tc : TT} {t u : TS} {D : Ends} {σ : L2.St} {H : Hp} (F : Bool → Hp → Prop) (hc : ∀ Q : Bool → Hp → Prop, (∀ b H2, F b H2 → Q b H2) → tc σ H Q) (h : ∀ b H2, F b H2 → if b = true then t D σ H2 else u D σ H2) : tIfS tc t u D σ H := hc _ h
theorem seqS_in {t u : TS} {D : Ends} {σ : L2.St} {H : Hp} (h : t { D with nx := u D } σ H) : tSeq t u D σ H := h
section
variable {P : Program} {w : World} {K : PySem.W.Frag} {mg : Str → Option Value} {base : Heap}
end
end Rw

/-! ### append within a try -/
namespace L2
open PySem PySem.Spec PyProof.Rows
def rTry (t : TS) : TS := t
theorem ps_named {X : Cx} {st : Stmt} {t : TS} (h : PS X st t) : PS X st (rTry t) := h
theorem rTry_in {t : TS} {D : Ends} {σ : St} {H : Hp} (h : t D σ H) : rTry t D σ H := h
theorem pe_appendK {X : Cx} {K : PySem.W.Frag} (hK : X.K = K) {o e : Expr} {apos cpos : Pos} {to : TE} {t : TA} (ho : PE X o to) (ha : PA X [e] t) (hbase : attributeBase o "append" X.env (eval o X.env) = eval o X.env := by rfl)
    (hfew : ((backTo cpos (starEach [e] X.env)).all (fun x => !x.1) && (backToKw cpos (keywordEach [] X.env)).all (fun x => x.1.isSome) && decide ([e].length + ([] : List Keyword).length + (if ([] : List Keyword).isEmpty then 0 else 1) < 30)) = true := by rfl)
    (hline : (apos.endLine == cpos.line) = true := by rfl) (hs : starEach [e] X.env = (false, eval e X.env) :: starEach [] X.env := by rfl) (hplain : (backTo cpos (starEach [] X.env)).any (·.1) = false := by rfl) :
    PE X (.Call (.Attribute o "append" apos) [e] [] cpos) (tBM K "list" rAppend to t) := by
  subst hK
  exact pe_bm PySem.F.plainAttrs_list PySem.F.slot_list_append PySem.F.type_list_append mt_append ho ha hbase hfew hline hs hplain
section
variable {X : Cx} {CX : CXT} {k : Nat} {f g C : Addr} {fd : FuncData} {ps : List Str} {sp : Sp} {E : St → XK} {a b : Expr} {ta tb : TE} {pos : Pos}
end
end L2
/-! ### what is added -/
namespace Rw
open PySem PySem.Spec PyProof.Rows L2
section
variable {P : Program} {w : World} {K : PySem.W.Frag} {mg : Str → Option Value} {base : Heap}
end
end Rw

/-! ### the rows that the law draws -/
namespace L2
open PySem PySem.Spec PyProof.Rows
theorem op_notIn_seqKK {X : Cx} {K : PySem.W.Frag} (hK : X.K = K) : OpR X (compareOp .NotIn) (rIn K true) := by
  subst hK
  exact op_notIn_seq
end L2
namespace Rw
open PySem PySem.Spec PyProof.Rows L2
section
variable {K : PySem.W.Frag} {d o q : Addr} {H0 : Hp} {wl fl : Addr} {xs : List V} {ss : List Step} {H H' : Hp}
end
end Rw

/-! ### the law -/
namespace Rw
open PySem PySem.Spec PyProof.Rows L2
theorem cut_any (xs : List V) (i : Nat) : cutV xs none (some (i : Int)) = xs.take i := by
  by_cases h : i ≤ xs.length
  · exact cut_head xs i h
  · show (xs.drop 0).take (HT.sIx xs.length xs.length (some (i : Int)) - 0) = _
    rw [HT.sIx_nat, List.drop_zero, Nat.sub_zero, Nat.min_eq_right (by omega), List.take_of_length_le (Nat.le_refl _), List.take_of_length_le (by omega)]
theorem asg_via {te : TE} {g : TG} {D : Ends} {σ : L2.St} {H : Hp} (F : V → Hp → Prop) (hc : ∀ Qx : VK, (∀ v H2, F v H2 → Qx v H2) → te σ H Qx) (h : ∀ v H2, F v H2 → g v σ H2 D.nx) : tAsg te g D σ H := hc _ h
section
variable {P : Program} {w : World} {K : PySem.W.Frag} {mg : Str → Option Value} {base : Heap}
end
end Rw


/-! Q1 -/
/-! ### sets of keys that are objects: any kind of key -/
namespace TG
open PySem PySem.Spec PyProof.Rows L2
structure SetKd (P : Program) (w : World) (κ : Type) [DecidableEq κ] where
  knd : HeapKind P w κ
  ofA : ∀ {A : Around} {E : Value → Shared → Prop} {s : Shared} {k : κ} {a : Addr} {Q : Bool → Shared → Prop}, knd.is s.heap k a → Q false s → wpAny (model P w) A (ofAClassStatement 8 (.ref a)) Q E s
  hby : ∀ {A : Around} {E : Value → Shared → Prop} {s : Shared} {k : κ} {a : Addr} {Q : Bool → Shared → Prop}, knd.is s.heap k a → (∀ b, Q b s) → wpAny (model P w) A (hashByValue 8 (.ref a)) Q E s
  keepS : ∀ {h h' : Heap} {k : κ} {a b : Addr} {o : Obj} {es : Array (Int × Value)} {ep : Nat} {t : SetTable}, knd.is h k b → h.get? a = some o → o.data = .set es ep t → Heap.SameBut a h h' → knd.is h' k b
  keepA : ∀ {h h' : Heap} {k : κ} {b : Addr}, knd.is h k b → (∀ c o, h.get? c = some o → h'.get? c = some o) → knd.is h' k b
theorem wp_if_bind {α : Type} {M : Model} {A : Around} {E : Value → Shared → Prop} {s : Shared} {c : Prop} [Decidable c] {m : Sem Bool} {K : Bool → Sem α} {Q : α → Shared → Prop} (hm : ∀ Qb : Bool → Shared → Prop, (∀ b, Qb b s) → wpAny M A m Qb E s) (h : ∀ b, wpAny M A (K b) Q E s) :
    wpAny M A (if c then m >>= K else K true) Q E s := by
  by_cases hc : c
  · rw [if_pos hc]; exact wpAny_bind (hm _ h)
  · rw [if_neg hc]; exact h true
section
variable {P : Program} {w : World} {κ : Type} [DecidableEq κ] {S : SetKd P w κ} {A : Around} {E : Value → Shared → Prop} {s : Shared}
/-- a search among tuples shows nothing -/
theorem seen_tup {k : κ} {b : Addr} {Q : Bool → Shared → Prop} (hk : S.knd.is s.heap k b) {ys : List Value} (hy : ∀ y ∈ ys, ∃ k' c, y = Value.ref c ∧ S.knd.is s.heap k' c) (h : Q false s) :
    wpAny (model P w) A (searchCouldBeSeen (.ref b) ys) Q E s := by
  unfold searchCouldBeSeen
  refine wpAny_bind ?_
  refine wpAny_forIn_list _ (fun rest r s' => r.1 = none ∧ s' = s ∧ ∀ y ∈ rest, ∃ k' c, y = Value.ref c ∧ S.knd.is s.heap k' c) _ ?_ ?_ _ _ ⟨rfl, rfl, hy⟩
  · rintro v rest r s' ⟨hr, rfl, hall⟩
    obtain ⟨k', c, rfl, hc⟩ := hall v List.mem_cons_self
    have rest' : ∀ y ∈ rest, ∃ k' c, y = Value.ref c ∧ S.knd.is s'.heap k' c := fun u hu' => hall u (List.mem_cons_of_mem _ hu')
    dsimp only
    by_cases hv : (b == c || (carriedByValue (.ref b) && carriedByValue (.ref c))) = true
    · refine wp_if_pos hv ?_
      exact wpAny_pure ⟨rfl, rfl, rest'⟩
    · refine wp_if_neg hv ?_
      refine wpAny_bind (S.knd.quiet hk ?_)
      simp only [Bool.not_true, Bool.false_eq_true, if_false]
      refine wpAny_bind (S.knd.quiet hc ?_)
      simp only [Bool.not_true, Bool.false_eq_true, if_false]
      refine wpAny_bind (S.ofA hk ?_)
      simp only [Bool.false_eq_true, if_false]
      refine wpAny_bind (S.ofA hc ?_)
      simp only [Bool.false_eq_true, if_false]
      exact wpAny_pure ⟨rfl, rfl, rest'⟩
  · rintro ⟨r1, r2⟩ s' ⟨hr, rfl, _⟩
    simp only at hr
    subst hr
    exact wpAny_pure h

def rowsG (S : SetKd P w κ) (L : List (Addr × κ)) : List (Int × Value) := L.map fun p => (S.knd.hash p.2, Value.ref p.1)
structure SetG (S : SetKd P w κ) (h : Heap) (a : Addr) (L : List (Addr × κ)) (es : Array (Int × Value)) (ep : Nat) (t : SetTable) : Prop where
  ob : ∃ o, h.get? a = some o ∧ o.ExactSet ∧ o.data = .set es ep t
  rows : es.toList = rowsG S L
  tab : TabOk t (L.map fun p => S.knd.hash p.2)
  nd : (L.map (·.2)).Nodup
  tup : ∀ p ∈ L, S.knd.is h p.2 p.1
  led : w.params.followText "set-order" = true ∨ t.led = true
  room : L.length * 5 < t.mask * 3
  few : L.length < 64
variable {a : Addr} {L : List (Addr × κ)} {es : Array (Int × Value)} {ep : Nat} {t : SetTable}
theorem SetG.size (R : SetG S s.heap a L es ep t) : es.size = L.length := by
  have h := congrArg List.length R.rows
  unfold rowsG at h
  rw [Array.length_toList, List.length_map] at h
  exact h
theorem SetG.fits (R : SetG S s.heap a L es ep t) : t.fits es.size = true := by
  have h1 := R.tab.sz
  rw [List.length_map] at h1
  have h2 := R.size
  have h3 := R.room
  unfold SetTable.fits SetTable.fill
  rw [R.tab.dm, Bool.and_eq_true, beq_iff_eq, decide_eq_true_eq]
  show t.place.size = es.size ∧ t.place.size + 0 ≤ t.mask
  omega
theorem SetG.entry (R : SetG S s.heap a L es ep t) {i : Nat} {p : Addr × κ} (h : L[i]? = some p) : es[i]? = some (S.knd.hash p.2, Value.ref p.1) := by
  rw [← Array.getElem?_toList, R.rows]
  unfold rowsG
  rw [List.getElem?_map, h] <;> rfl
theorem SetG.gw (R : SetG S s.heap a L es ep t) : ¬ t.gaveWay = true := by
  unfold SetTable.gaveWay
  rw [mask_odd R.tab.mok]
  decide
/-- THE SEARCH: from the c-th step of the way on -/
theorem search_from (R : SetG S s.heap a L es ep t) {x : Addr} {k : κ} (hx : S.knd.is s.heap k x) (hu : S.knd.room A) {K : Nat} (hKf : K < 10 * SetTable.turns t.mask)
    (hK : way t.mask (S.knd.hash k) K ∉ t.place.toList) (hKb : ∀ c, c < K → way t.mask (S.knd.hash k) c ∈ t.place.toList) {Q : SetFound → Shared → Prop}
    (hin : k ∈ L.map (·.2) → Q (.there none) s) (hout : k ∉ L.map (·.2) → Q (.free (way t.mask (S.knd.hash k) K) false) s) :
    ∀ (f c : Nat) (stand : Option SetTable.Probe), stand.getD (t.probeStart (S.knd.hash k)) = nth t.mask (runAt t.mask (SetTable.bits (S.knd.hash k) % (t.mask + 1)) (SetTable.bits (S.knd.hash k))) c → c ≤ K → K - c < f →
      (∀ (i : Nat) p, L[i]? = some p → p.2 = k → ∃ c', c ≤ c' ∧ c' < K ∧ t.place.toList[i]? = some (way t.mask (S.knd.hash k) c')) →
      wpAny (model P w) A (setSearchFrom a (.ref x) (S.knd.hash k) true f stand) Q E s
  | 0, c, stand, _, _, hf, _ => absurd hf (Nat.not_lt_zero _)
  | f + 1, c, stand, hst, hc, hf, hre => by
    obtain ⟨o, ho, hex, hd⟩ := R.ob
    rw [setSearchFrom_succ]
    refine wpAny_bind (wpAny_setState_of ho hd R.fits ?_)
    dsimp only
    refine wp_if_neg R.gw ?_
    try refine wpAny_bind (wpAny_pure ?_)
    have hnd : (nth t.mask (runAt t.mask (SetTable.bits (S.knd.hash k) % (t.mask + 1)) (SetTable.bits (S.knd.hash k))) c).dummy = none := by
      have key : ∀ (n : Nat) (p : SetTable.Probe), p.dummy = none → (nth t.mask p n).dummy = none := by
        intro n
        induction n with
        | zero => intro p h; exact h
        | succ n ih =>
          intro p h
          refine ih (adv t.mask p) ?_
          unfold adv
          split <;> exact h
      exact key c _ rfl
    have sh : ∀ q, nth t.mask (nth t.mask (runAt t.mask (SetTable.bits (S.knd.hash k) % (t.mask + 1)) (SetTable.bits (S.knd.hash k))) c) q = nth t.mask (runAt t.mask (SetTable.bits (S.knd.hash k) % (t.mask + 1)) (SetTable.bits (S.knd.hash k))) (c + q) := fun q => (nth_add t.mask c _ q).symm
    have e1 : ∀ q, (nth t.mask (nth t.mask (runAt t.mask (SetTable.bits (S.knd.hash k) % (t.mask + 1)) (SetTable.bits (S.knd.hash k))) c) q).j = way t.mask (S.knd.hash k) (c + q) := fun q => congrArg SetTable.Probe.j (sh q)
    have spec := go_spec t R.tab.ris R.tab.dm (fun i => (es[i]?.map (·.1)).getD 0) (S.knd.hash k) (10 * SetTable.turns t.mask) (K - c) _ hnd (by omega)
      (fun q hq => by rw [e1]; exact hKb (c + q) (by omega)) (by rw [e1, show c + (K - c) = K by omega]; exact hK)
    have hashAt : ∀ (i : Nat) p, L[i]? = some p → (fun i => (es[i]?.map (·.1)).getD 0) i = S.knd.hash p.2 := fun i p hp => by
      show (es[i]?.map (·.1)).getD 0 = _
      rw [R.entry hp] <;> rfl
    rcases spec with ⟨q, i, hq, hi, hh, hno, hpr⟩ | ⟨hno, hpr⟩
    · -- a candidate
      have hpr' : t.probe (fun i => (es[i]?.map (·.1)).getD 0) (S.knd.hash k) (stand.getD (t.probeStart (S.knd.hash k))) = some (.candidate (way t.mask (S.knd.hash k) (c + q)) i (nth t.mask (runAt t.mask (SetTable.bits (S.knd.hash k) % (t.mask + 1)) (SetTable.bits (S.knd.hash k))) (c + (q + 1)))) := by
        rw [hst, ← e1, ← sh]
        exact hpr
      rw [hpr']
      dsimp only
      rw [e1] at hi
      -- the entry
      have hil : i < L.length := by
        have h1 : i < t.place.toList.length := (List.getElem?_eq_some_iff.mp hi).1
        have h2 := R.tab.sz
        rw [List.length_map] at h2
        rw [Array.length_toList] at h1
        omega
      have hp : L[i]? = some L[i] := List.getElem?_eq_getElem hil
      generalize hpe : L[i] = p at hp
      have hmem : p ∈ L := List.mem_of_getElem? hp
      have hpt := R.tup p hmem
      have rest : wpAny (model P w) A (searchRest a (.ref x) (S.knd.hash k) true f es t (way t.mask (S.knd.hash k) (c + q)) i (nth t.mask (runAt t.mask (SetTable.bits (S.knd.hash k) % (t.mask + 1)) (SetTable.bits (S.knd.hash k))) (c + (q + 1)))) Q E s := by
        unfold searchRest
        rw [R.entry hp]
        dsimp only
        refine wpAny_bind (wpAny_holding (S.knd.eqBool hu hpt hx ?_))
        refine wpAny_bind (wpAny_setState_of ho hd R.fits ?_)
        dsimp only
        by_cases hkk : p.2 = k
        · refine wp_if_pos (by simp [hkk]) ?_
          refine wpAny_pure (hin ?_)
          exact List.mem_map.mpr ⟨p, hmem, hkk⟩
        · refine wp_if_neg (by simp [hkk]) ?_
          try refine wpAny_bind (wpAny_pure ?_)
          rw [sameMem]
          dsimp only
          have hsl : t.slot (way t.mask (S.knd.hash k) (c + q)) = .live i := slot_live R.tab.ris hi
          simp only [if_true, hsl, R.entry hp]
          refine wpAny_bind (wpAny_isSame_ref_self (wpAny_bind (wpAny_pure ?_)))
          simp only [if_true]
          refine wp_if_neg (by simp [hkk]) ?_
          refine search_from R hx hu hKf hK hKb hin hout f (c + (q + 1)) _ rfl (by omega) (by omega) fun i0 p0 h0 hk0 => ?_
          obtain ⟨c', a1, a2, a3⟩ := hre i0 p0 h0 hk0
          refine ⟨c', ?_, a2, a3⟩
          -- it isn't passed
          rcases Nat.lt_or_ge c' (c + q) with z | z
          · exfalso
            refine hno (c' - c) i0 (by omega) (by rw [e1, show c + (c' - c) = c' by omega]; exact a3) ?_
            exact (hashAt i0 p0 h0).trans (congrArg S.knd.hash hk0)
          · rcases Nat.lt_or_ge (c + q) c' with y | y
            · omega
            · exfalso
              have ec : c' = c + q := Nat.le_antisymm y z
              rw [ec] at a3
              have s0 := slot_live R.tab.ris a3
              rw [hsl] at s0
              injection s0 with s0
              rw [← s0, hp] at h0
              exact hkk ((congrArg Prod.snd (Option.some.inj h0)).trans hk0)
      by_cases hl : t.led = true
      · refine wp_if_neg (by simp [hl]) ?_
        try refine wpAny_bind (wpAny_pure ?_)
        exact rest
      · refine wp_if_pos (by simp [hl]) ?_
        refine wpAny_bind (seen_tup hx (fun y hy => ?_) ?_)
        · obtain ⟨e, he, ee⟩ := List.mem_map.mp hy
          have he1 : e ∈ es ∧ e.1 = S.knd.hash k := by simpa using he
          have he2 : e ∈ es.toList := by simpa using he1.1
          rw [R.rows] at he2
          obtain ⟨p2, hp2, e2⟩ := List.mem_map.mp he2
          refine ⟨p2.2, p2.1, ?_, R.tup p2 hp2⟩
          rw [← ee, ← e2]
        · refine wp_if_neg (by decide) ?_
          try refine wpAny_bind (wpAny_pure ?_)
          exact rest
    · -- the empty slot
      have hpr' : t.probe (fun i => (es[i]?.map (·.1)).getD 0) (S.knd.hash k) (stand.getD (t.probeStart (S.knd.hash k))) = some (.empty (way t.mask (S.knd.hash k) K) none) := by
        have e2 : way t.mask (S.knd.hash k) K = (nth t.mask (nth t.mask (runAt t.mask (SetTable.bits (S.knd.hash k) % (t.mask + 1)) (SetTable.bits (S.knd.hash k))) c) (K - c)).j := by
          rw [e1, show c + (K - c) = K by omega]
        rw [hst, e2]
        exact hpr
      rw [hpr']
      dsimp only
      refine wpAny_pure (hout fun hm => ?_)
      obtain ⟨p0, h0, hk0⟩ := List.mem_map.mp hm
      obtain ⟨i0, hi0, e0⟩ := List.getElem_of_mem h0
      have h00 : L[i0]? = some p0 := by rw [List.getElem?_eq_getElem hi0, e0]
      obtain ⟨c', a1, a2, a3⟩ := hre i0 p0 h00 hk0
      refine hno (c' - c) i0 (by omega) (by rw [e1, show c + (c' - c) = c' by omega]; exact a3) ?_
      exact (hashAt i0 p0 h00).trans (congrArg S.knd.hash hk0)

/-- the search as adding asks for it -/
theorem search_at (R : SetG S s.heap a L es ep t) {x : Addr} {k : κ} (hx : S.knd.is s.heap k x) (hu : S.knd.room A) {Q : SetFound → Shared → Prop}
    (hin : k ∈ L.map (·.2) → Q (.there none) s)
    (hout : ∀ K, k ∉ L.map (·.2) → way t.mask (S.knd.hash k) K ∉ t.place.toList → (∀ c, c < K → way t.mask (S.knd.hash k) c ∈ t.place.toList) → Q (.free (way t.mask (S.knd.hash k) K) false) s) :
    wpAny (model P w) A (setSearch a (.ref x) (S.knd.hash k) true) Q E s := by
  have hroom := R.room
  obtain ⟨K, hKf, hK, hKb⟩ := R.tab.first (by rw [List.length_map]; omega) (S.knd.hash k)
  have hbig : K < 100000 := by
    have : 10 * SetTable.turns t.mask ≤ 1420 := by
      unfold SetTable.turns
      rcases R.tab.mok with e | e | e <;> omega
    omega
  unfold setSearch
  refine search_from R hx hu hKf hK hKb hin (fun hn => hout K hn hK hKb) 100000 0 none rfl (Nat.zero_le _) (by omega) fun i p hp hk => ?_
  have hi : (L.map fun p => S.knd.hash p.2)[i]? = some (S.knd.hash k) := by rw [List.getElem?_map, hp, ← hk] <;> rfl
  have hil : i < t.place.toList.length := by
    have h1 : i < L.length := (List.getElem?_eq_some_iff.mp hp).1
    have h2 := R.tab.sz
    rw [List.length_map] at h2
    rw [Array.length_toList]
    omega
  have hj := List.getElem?_eq_getElem hil
  obtain ⟨c, hc, e⟩ := R.tab.before hK hi hj
  exact ⟨c, Nat.zero_le _, hc, by rw [hj, e]⟩
end
section
variable {P : Program} {w : World} {κ : Type} [DecidableEq κ] {S : SetKd P w κ} {A : Around} {E : Value → Shared → Prop} {s : Shared}
theorem isT_same {h h' : Heap} {k : κ} {a b : Addr} {o : Obj} {es : Array (Int × Value)} {ep : Nat} {t : SetTable} (hb : S.knd.is h k b) (ho : h.get? a = some o) (hd : o.data = .set es ep t) (hs : Heap.SameBut a h h') : S.knd.is h' k b := S.keepS hb ho hd hs
theorem rows_put (L : List (Addr × κ)) (p : Nat) (x : Addr) (k : κ) : rowsG S (L.take p ++ (x, k) :: L.drop p) = (rowsG S L).take p ++ (S.knd.hash k, Value.ref x) :: (rowsG S L).drop p := by
  unfold rowsG
  rw [List.map_append, List.map_cons, List.map_take, List.map_drop]
theorem order_rows (L : List (Addr × κ)) (es : Array (Int × Value)) (order : Array Nat) (hr : es.toList = rowsG S L) (hp : order.toList.Perm (List.range L.length)) :
    ∃ L2, (order.filterMap (es[·]?)).toList = rowsG S L2 ∧ L2.Perm L ∧ (L2.map fun p => S.knd.hash p.2) = order.toList.map fun i => (es.map (·.1)).getD i 0 := by
  have hsz : es.size = L.length := by
    have h := congrArg List.length hr
    unfold rowsG at h
    rw [Array.length_toList, List.length_map] at h
    exact h
  have ent : ∀ i (h : i < L.length), es[i]? = some (S.knd.hash (L[i]).2, Value.ref (L[i]).1) := fun i h => by
    rw [← Array.getElem?_toList, hr]
    unfold rowsG
    rw [List.getElem?_map, List.getElem?_eq_getElem h] <;> rfl
  have key : ∀ l : List Nat, (∀ i ∈ l, i < L.length) → ∃ L2 : List (Addr × κ), l.filterMap (fun i => es[i]?) = rowsG S L2 ∧ L2 = l.filterMap (fun i => L[i]?) ∧ (L2.map fun p => S.knd.hash p.2) = l.map fun i => (es.map (·.1)).getD i 0 := by
    intro l
    induction l with
    | nil => intro _; exact ⟨[], rfl, rfl, rfl⟩
    | cons i l ih =>
      intro hl
      have hi := hl i List.mem_cons_self
      obtain ⟨L2, e1, e2, e3⟩ := ih fun j hj => hl j (List.mem_cons_of_mem _ hj)
      refine ⟨L[i] :: L2, ?_, ?_, ?_⟩
      · rw [List.filterMap_cons_some (ent i hi), e1] <;> rfl
      · rw [List.filterMap_cons_some (List.getElem?_eq_getElem hi), e2]
      · rw [List.map_cons, List.map_cons, e3]
        have hi2 : i < (es.map (·.1)).size := by rw [Array.size_map, hsz]; exact hi
        have e4 : (es.map (·.1)).getD i 0 = S.knd.hash (L[i]).2 := by
          have e5 : (es.map (·.1))[i]? = some (S.knd.hash (L[i]).2) := by rw [Array.getElem?_map, ent i hi] <;> rfl
          simp [Array.getD_eq_getD_getElem?, e5]
        rw [e4]
  obtain ⟨L2, e1, e2, e3⟩ := key order.toList fun i hi => List.mem_range.mp (hp.mem_iff.mp hi)
  refine ⟨L2, by first | (rw [Array.toList_filterMap]; exact e1) | simpa using e1, ?_, e3⟩
  have h1 : L2.Perm ((List.range L.length).filterMap fun i => L[i]?) := by
    rw [e2]
    exact hp.filterMap _
  have h2 : (List.range L.length).filterMap (fun i => L[i]?) = L := by
    have key2 : ∀ n, n ≤ L.length → (List.range n).filterMap (fun i => L[i]?) = L.take n := by
      intro n
      induction n with
      | zero => intro _; rfl
      | succ n ih =>
        intro hn
        have hlt : n < L.length := hn
        rw [List.range_succ, List.filterMap_append, ih (Nat.le_of_lt hlt), List.take_succ, List.getElem?_eq_getElem hlt]
        rw [List.filterMap_cons_some (List.getElem?_eq_getElem hlt)] <;> rfl
    rw [key2 L.length (Nat.le_refl _), List.take_length]
  rw [h2] at h1
  exact h1

variable {a : Addr} {L : List (Addr × κ)} {es : Array (Int × Value)} {ep : Nat} {t : SetTable}
/-- the table laid anew, larger -/
theorem relay_at {o : Obj} (ho : s.heap.get? a = some o) (hex : o.ExactSet) (hd : o.data = .set es ep t) (hrows : es.toList = rowsG S L) (hsz : t.place.size = es.size) (hdm : t.dummies = #[]) (hfl : es.size ≤ t.mask)
    (nd : (L.map (·.2)).Nodup) (tup : ∀ p ∈ L, S.knd.is s.heap p.2 p.1) (ld : w.params.followText "set-order" = true ∨ t.led = true) (few : L.length < 64) {wanted M : Nat}
    (hw : SetTable.sizeAbove wanted - 1 = M) (hM : MaskOk M) (hw2 : SetTable.sizeAbove wanted ≤ 128) (hn : L.length * 5 < M * 3) {Q : Unit → Shared → Prop}
    (hQ : ∀ h' L' es' ep' t', Heap.SameBut a s.heap h' → SetG S h' a L' es' ep' t' → L'.Perm L → Q () { s with heap := h' }) : wpAny (model P w) A (setRelay a wanted) Q E s := by
  have hsl : es.size = L.length := by
    have h := congrArg List.length hrows
    unfold rowsG at h
    rw [Array.length_toList, List.length_map] at h
    exact h
  have hfits : t.fits es.size = true := by
    unfold SetTable.fits SetTable.fill
    rw [hdm, Bool.and_eq_true, beq_iff_eq, decide_eq_true_eq]
    show t.place.size = es.size ∧ t.place.size + 0 ≤ t.mask
    omega
  obtain ⟨t', order, e, hp, T, em, el, ep', ed⟩ := relaid_ok t (hs := es.map (·.1)) (wanted := wanted) hw hM (by rw [Array.size_map, hsl]; omega)
  rw [Array.size_map, hsl] at hp
  obtain ⟨L2, r1, r2, r3⟩ := order_rows L es order hrows hp
  rw [← r3] at T
  have hs2 : (order.filterMap (es[·]?)).size = es.size := by
    have h := congrArg List.length r1
    unfold rowsG at h
    rw [Array.length_toList, List.length_map, r2.length_eq] at h
    rw [h, hsl]
  rw [setRelay_eq]
  refine wpAny_bind (wpAny_setState_of ho hd hfits ?_)
  dsimp only
  refine wp_if_neg (by rw [sizeLine_eq]; omega) ?_
  try refine wpAny_bind (wpAny_pure ?_)
  rw [e]
  dsimp only
  refine wpAny_bind ?_
  refine wp_if_neg (by rw [hs2]; simp) ?_
  try refine wpAny_bind (wpAny_pure ?_)
  refine wpAny_pure ?_
  dsimp only
  refine wpAny_storeSet_of ho hd ?_ (by rw [hs2, hsl, sizeLine_eq]; omega)
  have sb : Heap.SameBut a s.heap (s.heap.update a (Obj.putSet (order.filterMap (es[·]?)) t')) := Heap.SameBut.update ..
  refine hQ _ L2 (order.filterMap (es[·]?)) (ep + 1) t' sb ?_ r2
  refine ⟨⟨_, store_at ho hd, ⟨hex.1, hex.2.1, hex.2.2⟩, rfl⟩, r1, T, ?_, fun p hpm => isT_same (tup p (r2.mem_iff.mp hpm)) ho hd sb, by rw [el]; exact ld, ?_, by rw [r2.length_eq]; exact few⟩
  · exact (r2.map (·.2)).nodup_iff.mpr nd
  · rw [r2.length_eq, em]
    exact hn

/-- ADDING -/
theorem add_at (R : SetG S s.heap a L es ep t) {x : Addr} {k : κ} (hx : S.knd.is s.heap k x) (hu : S.knd.room A) (hfew : L.length + 1 < 64) {Q : Bool → Shared → Prop}
    (hQ : ∀ b h' L' es' ep' t', Heap.SameBut a s.heap h' → SetG S h' a L' es' ep' t' → (k ∈ L.map (·.2) → L' = L) → (k ∉ L.map (·.2) → L'.Perm ((x, k) :: L)) → Q b { s with heap := h' }) :
    wpAny (model P w) A (setAddHashed a (.ref x) (S.knd.hash k)) Q E s := by
  obtain ⟨o, ho, hex, hd⟩ := R.ob
  have hsl := R.size
  have hroom := R.room
  unfold setAddHashed
  refine wpAny_holding ?_
  rw [show (100000 : Nat) = 99999 + 1 from rfl, setAddHashedIn_succ]
  refine wpAny_bind (wpAny_setState_of ho hd R.fits ?_)
  dsimp only
  refine wp_if_neg (by simp [byScan, Value.scannable]) ?_
  try refine wpAny_bind (wpAny_pure ?_)
  refine wpAny_bind (search_at R hx hu (fun hm => ?_) fun K hm hK hb => ?_)
  · dsimp only
    exact wpAny_pure (hQ false s.heap L es ep t (Heap.SameBut.refl a s.heap) R (fun _ => rfl) fun z => absurd hm z)
  · dsimp only
    refine wpAny_bind (wpAny_setState_of ho hd R.fits ?_)
    dsimp only
    obtain ⟨q1, q2, q3, q4, q5, q6, q7, q8, q9⟩ := R.tab.put hK hb
    generalize hpt : t.put (way t.mask (S.knd.hash k) K) = pt at q1 q3 q4 q5 q7 q8 q9 ⊢
    obtain ⟨t0, p⟩ := pt
    dsimp only at q1 q3 q4 q5 q7 q8 q9 ⊢
    subst q1
    have via : ∀ b : Bool, ∃ t1 : SetTable, (if b = true then t0 else { t0 with plain := false }) = t1 ∧ TabOk t1 ((L.map fun p => S.knd.hash p.2).take (SetTable.below t.place (way t.mask (S.knd.hash k) K)) ++ S.knd.hash k :: (L.map fun p => S.knd.hash p.2).drop (SetTable.below t.place (way t.mask (S.knd.hash k) K))) ∧
        t1.mask = t.mask ∧ t1.led = t.led ∧ t1.fill = (L.map fun p => S.knd.hash p.2).length + 1 := fun b => by
      cases b with
      | true => exact ⟨t0, rfl, q3, q4, q5, q9⟩
      | false => exact ⟨_, rfl, ⟨q3.ris, q3.dm, q3.sz, q3.mok, q3.bd, q3.reach⟩, q4, q5, q9⟩
    refine wp_if_bind (m := hashByValue 8 (.ref x)) (fun Qb hq => S.hby hx hq) fun b => ?_
    obtain ⟨t1, et, q3, q4, q5, q9⟩ := via b
    rw [et]
    have hin : (SetTable.insertAt es (SetTable.below t.place (way t.mask (S.knd.hash k) K)) (S.knd.hash k, Value.ref x)).toList = rowsG S (L.take (SetTable.below t.place (way t.mask (S.knd.hash k) K)) ++ (x, k) :: L.drop (SetTable.below t.place (way t.mask (S.knd.hash k) K))) := by
      rw [SetTable.toList_insertAt, rows_put, R.rows]
    generalize hpp : SetTable.below t.place (way t.mask (S.knd.hash k) K) = p at q2 q3 hin ⊢
    have pm := put_perm L p (x, k)
    have hlen : (L.take p ++ (x, k) :: L.drop p).length = L.length + 1 := pm.length_eq
    have hhs : (L.take p ++ (x, k) :: L.drop p).map (fun p => S.knd.hash p.2) = (L.map fun p => S.knd.hash p.2).take p ++ S.knd.hash k :: (L.map fun p => S.knd.hash p.2).drop p := by
      rw [List.map_append, List.map_cons, List.map_take, List.map_drop]
    rw [← hhs] at q3
    have nd1 : ((L.take p ++ (x, k) :: L.drop p).map (·.2)).Nodup := by
      refine (pm.map (·.2)).nodup_iff.mpr ?_
      rw [List.map_cons]
      exact List.nodup_cons.mpr ⟨hm, R.nd⟩
    have hes : (SetTable.insertAt es p (S.knd.hash k, Value.ref x)).size = L.length + 1 := by
      have h := congrArg List.length hin
      unfold rowsG at h
      rw [Array.length_toList, List.length_map, hlen] at h
      exact h
    generalize SetTable.insertAt es p (S.knd.hash k, Value.ref x) = es1 at hin hes ⊢
    generalize L.take p ++ (x, k) :: L.drop p = L1 at pm hlen q3 nd1 hin
    refine wpAny_bind (wpAny_storeSet_of ho hd ?_ (by rw [hes, sizeLine_eq]; omega))
    have sb : Heap.SameBut a s.heap (s.heap.update a (Obj.putSet es1 t1)) := Heap.SameBut.update ..
    have ho1 := store_at (es' := es1) (t' := t1) ho hd
    generalize s.heap.update a (Obj.putSet es1 t1) = h1 at sb ho1 ⊢
    have tup1 : ∀ p ∈ L1, S.knd.is h1 p.2 p.1 := fun p hp => by
      rcases List.mem_cons.mp (pm.mem_iff.mp hp) with e | hp
      · rw [e]; exact isT_same hx ho hd sb
      · exact isT_same (R.tup p hp) ho hd sb
    have ld1 : w.params.followText "set-order" = true ∨ t1.led = true := by rw [q5]; exact R.led
    by_cases hf : t1.tooFull = true
    · first
        | (refine wpAny_bind ?_; refine wp_if_pos (by simp [hf]) ?_)
        | (refine wp_if_pos (by simp [hf]) ?_; refine wpAny_bind ?_)
      have hfull : (L.length + 1) * 5 ≥ t1.mask * 3 := by
        have h := hf
        unfold SetTable.tooFull at h
        rw [decide_eq_true_eq, q9, List.length_map] at h
        exact h
      rw [hsl]
      have hsz1 : t1.place.size = es1.size := by
        have h := q3.sz
        rw [List.length_map, hlen] at h
        rw [h, hes]
      have cases2 : (t.mask = 7 ∧ L.length = 4) ∨ (t.mask = 31 ∧ L.length = 18) := by
        rcases R.tab.mok with e | e | e
        · left; rw [q4, e] at hfull; rw [e] at hroom; exact ⟨e, by omega⟩
        · right; rw [q4, e] at hfull; rw [e] at hroom; exact ⟨e, by omega⟩
        · exfalso; rw [q4, e] at hfull; omega
      have go : ∀ M, SetTable.sizeAbove (SetTable.grown (L.length + 1)) - 1 = M → MaskOk M → SetTable.sizeAbove (SetTable.grown (L.length + 1)) ≤ 128 → (L.length + 1) * 5 < M * 3 →
          wpAny (model P w) A (setRelay a (SetTable.grown (L.length + 1))) (fun _ s' => wpAny (model P w) A (pure true) Q E s') E { s with heap := h1 } := fun M h1' h2' h3' h4' => by
        refine relay_at (s := { s with heap := h1 }) ho1 ⟨hex.1, hex.2.1, hex.2.2⟩ rfl hin hsz1 q3.dm (by rw [hes, q4]; rcases cases2 with ⟨e, e2⟩ | ⟨e, e2⟩ <;> omega) nd1 tup1 ld1 (by rw [hlen]; exact hfew) h1' h2' h3' (by rw [hlen]; exact h4') ?_
        intro h2 L2 es2 ep2 t2 sb2 R2 pm2
        refine wpAny_pure (hQ true h2 L2 es2 ep2 t2 (sb.trans sb2) R2 (fun z => absurd z hm) fun _ => pm2.trans pm)
      rcases cases2 with ⟨_, e2⟩ | ⟨_, e2⟩
      · refine go 31 (by rw [e2, size_20]) (.inr (.inl rfl)) (by rw [e2, size_20]; decide) (by omega)
      · refine go 127 (by rw [e2, size_76]) (.inr (.inr rfl)) (by rw [e2, size_76]; decide) (by omega)
    · first
        | refine wp_if_neg (by simp [hf]) ?_
        | (refine wpAny_bind ?_; refine wp_if_neg (by simp [hf]) ?_; refine wpAny_pure ?_)
      refine wpAny_pure (hQ true h1 L1 es1 (ep + 1) t1 sb ⟨⟨_, ho1, ⟨hex.1, hex.2.1, hex.2.2⟩, rfl⟩, hin, q3, nd1, tup1, ld1, ?_, by rw [hlen]; exact hfew⟩ (fun z => absurd z hm) fun _ => pm)
      have h := hf
      unfold SetTable.tooFull at h
      rw [decide_eq_true_eq, q9, List.length_map] at h
      rw [hlen]
      omega
end

/-- what the set has got from the first i items -/
structure Got {κ : Type} (ks : List (Addr × κ)) (i : Nat) (L : List (Addr × κ)) : Prop where
  sub : ∀ p ∈ L, p ∈ ks.take i
  all : ∀ p ∈ ks.take i, p.2 ∈ L.map (·.2)
  len : L.length ≤ i
theorem Got.zero (ks : List (Addr × κ)) : Got ks 0 [] := ⟨fun p h => (by cases h), fun p h => (by simp at h), Nat.le_refl _⟩
theorem Got.same {ks L : List (Addr × κ)} {i : Nat} {x : Addr × κ} (g : Got ks i L) (h : ks[i]? = some x) (hm : x.2 ∈ L.map (·.2)) : Got ks (i + 1) L := by
  refine ⟨fun p hp => ?_, fun p hp => ?_, Nat.le_succ_of_le g.len⟩
  · rw [take_next h]
    exact List.mem_append_left _ (g.sub p hp)
  · rw [take_next h] at hp
    rcases List.mem_append.mp hp with z | z
    · exact g.all p z
    · rw [List.mem_singleton.mp z]; exact hm
theorem Got.more {ks L L' : List (Addr × κ)} {i : Nat} {x : Addr × κ} (g : Got ks i L) (h : ks[i]? = some x) (pm : L'.Perm (x :: L)) : Got ks (i + 1) L' := by
  refine ⟨fun p hp => ?_, fun p hp => ?_, ?_⟩
  · rw [take_next h]
    rcases List.mem_cons.mp (pm.mem_iff.mp hp) with e | z
    · rw [e]; exact List.mem_append_right _ (List.mem_singleton.mpr rfl)
    · exact List.mem_append_left _ (g.sub p z)
  · rw [(pm.map (·.2)).mem_iff, List.map_cons]
    rw [take_next h] at hp
    rcases List.mem_append.mp hp with z | z
    · exact List.mem_cons_of_mem _ (g.all p z)
    · rw [List.mem_singleton.mp z]; exact List.mem_cons_self
  · rw [pm.length_eq, List.length_cons]
    exact Nat.succ_le_succ g.len

section
variable {P : Program} {w : World} {κ : Type} [DecidableEq κ] {S : SetKd P w κ} {A : Around} {E : Value → Shared → Prop} {s : Shared}
theorem isT_keep {h h' : Heap} {k : κ} {b : Addr} (x : S.knd.is h k b) (hk : ∀ c o, h.get? c = some o → h'.get? c = some o) : S.knd.is h' k b := S.keepA x hk
theorem SetG.keep {h h' : Heap} {a : Addr} {L : List (Addr × κ)} {es : Array (Int × Value)} {ep : Nat} {t : SetTable} (R : SetG S h a L es ep t) (ha : ∀ o, h.get? a = some o → h'.get? a = some o) (ht : ∀ p ∈ L, S.knd.is h' p.2 p.1) : SetG S h' a L es ep t := by
  obtain ⟨o, ho, r⟩ := R.ob
  exact ⟨⟨o, ha o ho, r⟩, R.rows, R.tab, R.nd, ht, R.led, R.room, R.few⟩
/-- a new set -/
theorem setG_fresh {h : Heap} {a : Addr} (ho : h.get? a = some { cls := .type "set", dict := none, data := .set #[] 0 (.fresh 0 0 (!w.params.followText "set-order")) }) : SetG S h a [] #[] 0 (.fresh 0 0 (!w.params.followText "set-order")) where
  ob := ⟨_, ho, ⟨rfl, rfl, rfl⟩, rfl⟩
  rows := rfl
  tab := ⟨List.Pairwise.nil, rfl, rfl, .inl rfl, fun x hx => (by cases hx), fun i h j hi => (by simp at hi)⟩
  nd := List.nodup_nil
  tup := fun p hp => (by cases hp)
  led := by
    show _ ∨ (!w.params.followText "set-order") = true
    cases w.params.followText "set-order"
    · exact .inr rfl
    · exact .inl rfl
  room := by
    show 0 * 5 < 7 * 3
    decide
  few := by
    show 0 < 64
    decide

/-- set.update's loop -/
theorem set_update_tups {I : Addr} {fp wr : List Addr} {G : Array GenState → Array GenState → Prop} {n : Nat} {Pv : Nat → Value → Prop} {St : Nat → Shared → Prop} {R : Result → Shared → Prop}
    (W : WalksS P w A.in1 I fp wr G n Pv St) (Sa : Addr) (hSf : Sa ∉ fp) (ks : List (Addr × κ)) (hn : n = ks.length) (hfew : ks.length < 64) (hval : ∀ i v, Pv i v → ∃ p, ks[i]? = some p ∧ v = .ref p.1)
    (h0 : Heap) (hk : ∀ p ∈ ks, S.knd.is h0 p.2 p.1) (hS0 : h0.get? Sa = none) (hw0 : ∀ b ∈ wr, h0.get? b = none) (hu : S.knd.room A.in1) :
    ∀ (k i : Nat) (s : Shared), n - i = k → i ≤ n → St i s → (∀ b o, h0.get? b = some o → s.heap.get? b = some o) → (∃ L es ep t, SetG S s.heap Sa L es ep t ∧ Got ks i L) →
      (∀ s' L es ep t, Moved (Sa :: wr) G s s' → SetG S s'.heap Sa L es ep t → Got ks n L → (∀ b o, h0.get? b = some o → s'.heap.get? b = some o) → R (.ok (.ret .none)) s') →
      codeAny (model P w) A (.builtin "set.update.loop" ⟨[.ref Sa, .ref I], []⟩) R s := by
  have hSw : Sa ∉ wr := fun h => hSf (W.sub _ h)
  have hsub : ∀ b ∈ wr, b ∈ Sa :: wr := fun b hb => List.mem_cons_of_mem _ hb
  have keepM : ∀ {s s' : Shared}, Moved wr G s s' → (∀ b o, h0.get? b = some o → s.heap.get? b = some o) → ∀ b o, h0.get? b = some o → s'.heap.get? b = some o := fun hm hkp b o e =>
    hm.heap b o (fun hb => by rw [hw0 b hb] at e; cases e) (hkp b o e)
  intro k
  induction k with
  | zero =>
    intro i s hk' hi hst hkp ⟨L, es, ep, t, hS, g⟩ hR
    have hin : i = n := by omega
    subst hin
    refine codeAny_builtin F.entry_set_update_loop ?_
    rw [Around.under_plainId F.plain_set_update_loop _]
    show wpAny _ A.in1 (pyNext (.ref I) >>= _) _ _ s
    refine wpAny_bind (W.done s _ _ hst fun s' hm => ?_)
    show wpAny _ A.in1 (ret Value.none) _ _ s'
    have hkp' := keepM hm hkp
    have sub : ∀ p ∈ L, p ∈ ks := fun p hp => List.mem_of_mem_take (g.sub p hp)
    exact wpAny_pure (hR s' L es ep t (hm.mono hsub) (hS.keep (fun o e => hm.heap Sa o hSw e) fun p hp => isT_keep (hk p (sub p hp)) hkp') g hkp')
  | succ k ih =>
    intro i s hk' hi hst hkp ⟨L, es, ep, t, hS, g⟩ hR
    have hlt : i < n := by omega
    refine codeAny_builtin F.entry_set_update_loop ?_
    rw [Around.under_plainId F.plain_set_update_loop _]
    show wpAny _ A.in1 (pyNext (.ref I) >>= _) _ _ s
    refine wpAny_bind (W.item i s _ _ hlt hst fun v s' hP hst' hm => ?_)
    obtain ⟨p, hp, rfl⟩ := hval i v hP
    have hkp' := keepM hm hkp
    have sub : ∀ p ∈ L, p ∈ ks := fun p hp => List.mem_of_mem_take (g.sub p hp)
    have hS' : SetG S s'.heap Sa L es ep t := hS.keep (fun o e => hm.heap Sa o hSw e) fun q hq => isT_keep (hk q (sub q hq)) hkp'
    have hx : S.knd.is s'.heap p.2 p.1 := isT_keep (hk p (List.mem_of_getElem? hp)) hkp'
    show wpAny _ A.in1 (holding [Value.ref p.1] (setAdd Sa (.ref p.1)) >>= _) _ _ s'
    refine wpAny_bind (wpAny_holding ?_)
    unfold setAdd
    refine wpAny_holding ?_
    refine wpAny_bind (S.knd.pyHash hu hx ?_)
    refine add_at (s := { s' with toks := s'.toks + S.knd.draws p.2 }) hS' hx hu (by have := g.len; omega) fun b h' L' es' ep' t' hsb hS2 c1 c2 => ?_
    have g' : Got ks (i + 1) L' := by
      rcases Classical.em (p.2 ∈ L.map (·.2)) with c | c
      · rw [c1 c]; exact g.same hp c
      · exact g.more hp (c2 c)
    have hkp2 : ∀ b o, h0.get? b = some o → h'.get? b = some o := fun b o e => (hsb.2 b (fun z => by rw [z, hS0] at e; cases e)).trans (hkp' b o e)
    refine wpAny_pure ⟨plainId_quiet F.plain_set_update_loop _, ih (i + 1) _ (by omega) hlt (W.frame _ s' _ _ hst' (Nat.le_add_right _ _) fun b hb o e => ?_) hkp2 ⟨L', es', ep', t', hS2, g'⟩ fun s'' L2 es2 ep2 t2 hm'' hS'' g'' hkp'' => ?_⟩
    · rw [hsb.2 b (fun h : b = Sa => hSf (by rw [← h]; exact hb))]; exact e
    · refine hR s'' L2 es2 ep2 t2 (Moved.trans W.gtrans ((hm.mono hsub).then_heap (Nat.le_add_right _ _) fun b o hb e => ?_) hm'') hS'' g'' hkp''
      rw [hsb.2 b (fun h : b = Sa => hb (by rw [h]; exact List.mem_cons_self))]; exact e

set_option maxRecDepth 100000 in
set_option maxHeartbeats 3200000 in
/-- set(xs) -/
theorem call_set_tups {l : Addr} {items : Array Value} (ks : List (Addr × κ)) {Q : Value → Shared → Prop} (hh : A.handled = none) (hl : s.heap.IsList l items) (hit : items.toList = ks.map fun p => Value.ref p.1)
    (hk : ∀ p ∈ ks, S.knd.is s.heap p.2 p.1) (hfew : ks.length < 64) (hu : S.knd.room A.in1.in1.in1)
    (h : ∀ (h' : Heap) (tk : Nat) L es ep t, SetG S h' s.heap.objs.size L es ep t → Got ks ks.length L → (∀ b o, s.heap.get? b = some o → h'.get? b = some o) → Q (.ref s.heap.objs.size) { s with heap := h', toks := tk }) :
    wpAny (model P w) A (call (.type "set") [.ref l]) Q E s := by
  have hisz : items.size = ks.length := by
    have q := congrArg List.length hit
    rw [Array.length_toList, List.length_map] at q
    exact q
  obtain ⟨c, tl, hmro⟩ := F.called_set.mro
  have hmade := F.called_set.made
  have hsub := F.called_set.sub
  refine wpAny_call (codeAny_of_tree ?_)
  show wpAny _ _ (callAny (.type "set") _) _ _ _
  refine wpAny_pure ⟨Code.quiet_builtin _ (by decide +kernel), codeAny_builtin F.entry_type_call ?_⟩
  rw [Around.under_plain (weight_type_call_type "set" [.ref l] []) rfl]
  have h1 := F.called_set.notType
  have h2 := F.called_set.canCreate
  have hct := F.typeCall_set_1 (.ref l)
  repeat (any_goals (first | assumption | wp_step))

  refine codeAny_mono (code_set_led1 (.ref l) (E := E) (Q₁ := fun obj s₁ => obj = .ref s.heap.objs.size ∧ s₁ = { s with heap := s.heap.push { cls := .type "set", dict := none, data := .set #[] 0 (.fresh 0 0 (!w.params.followText "set-order")) } }) ⟨rfl, rfl⟩) fun r s₁ hr => ?_
  cases r with
  | error e => exact hr
  | ok fl =>
    cases fl with
    | ret obj =>
      obtain ⟨rfl, rfl⟩ := hr
      have hS : (s.heap.push { cls := .type "set", dict := none, data := .set #[] 0 (.fresh 0 0 (!w.params.followText "set-order")) }).get? s.heap.objs.size = some { cls := .type "set", dict := none, data := .set #[] 0 (.fresh 0 0 (!w.params.followText "set-order")) } := Heap.get?_push_size _ rfl
      have hT : Shared.TypeIs { s with heap := s.heap.push { cls := .type "set", dict := none, data := .set #[] 0 (.fresh 0 0 (!w.params.followText "set-order")) } } (.ref s.heap.objs.size) "set" := ⟨_, hS, rfl⟩
      have hli := F.called_set.init.lookup
      have hbi := F.called_set.init.bind (.ref s.heap.objs.size)
      repeat (any_goals (first | assumption | wp_step))

      refine codeAny_mono (codeAny_call_builtin (R := wants (fun r s₂ => r = .none ∧ ∃ h' tk L es ep t, s₂ = { s with heap := h', toks := tk } ∧ SetG S h' s.heap.objs.size L es ep t ∧ Got ks ks.length L ∧
          (∀ b o, s.heap.get? b = some o → h'.get? b = some o)) E) F.called_set.init.plain F.entry_set_init (check_set_init_1 hT ?_)) fun r₂ s₂ hr₂ => ?_
      · obtain ⟨ol, hol, hcl, nl, hdl⟩ := hl
        obtain ⟨ocls, odict, odata, oslots⟩ := ol
        simp only at hcl hdl
        subst hcl; subst hdl
        have hol' : (s.heap.push { cls := .type "set", dict := none, data := .set #[] 0 (.fresh 0 0 (!w.params.followText "set-order")) }).get? l = some { cls := .type "list", dict := odict, data := .seq items nl, slots := oslots } := Heap.get?_push_of_some _ hol
        have hsls := F.sub_list_set
        have hslf := F.sub_list_frozenset
        have hne : (Value.type "list" == Value.type "dict") = false := by decide
        have hl1 : (s.heap.push { cls := .type "set", dict := none, data := .set #[] 0 (.fresh 0 0 (!w.params.followText "set-order")) }).IsList l items := ⟨_, hol', rfl, nl, rfl⟩
        unfold Builtin.«set.__init__» noKeywords Builtin.Frozenset.updateFrom
        generalize hPI : pyIter = PI
        wp_walk
        subst hPI

        refine wpAny_pyIter_list hl1 ?_
        refine wpAny_bind (wpAny_runValue ?_)
        have hlS : l < s.heap.objs.size := Heap.lt_size hol
        have hh3 : A.in1.in1.in1.handled = none := by simp [hh]
        have hz1 : (s.heap.push { cls := .type "set", dict := none, data := .set #[] 0 (.fresh 0 0 (!w.params.followText "set-order")) }).objs.size = s.heap.objs.size + 1 := Heap.size_push ..
        have hneI : l ≠ (s.heap.push { cls := .type "set", dict := none, data := .set #[] 0 (.fresh 0 0 (!w.params.followText "set-order")) }).objs.size := by
          rw [Heap.size_push]; exact Nat.ne_of_lt (Nat.lt_succ_of_lt hlS)
        have hSf : s.heap.objs.size ∉ [(s.heap.push { cls := .type "set", dict := none, data := .set #[] 0 (.fresh 0 0 (!w.params.followText "set-order")) }).objs.size, l] := by
          rw [Heap.size_push]; simp only [List.mem_cons, List.mem_singleton, List.not_mem_nil, or_false, not_or]
          exact ⟨Nat.ne_of_lt (Nat.lt_succ_self _), Nat.ne_of_gt hlS⟩
        have hval : ∀ (i : Nat) (v : Value), items[i]? = some v → ∃ p, ks[i]? = some p ∧ v = .ref p.1 := fun i v hv => by
          have q : items.toList[i]? = some v := by rw [Array.getElem?_toList]; exact hv
          rw [hit, List.getElem?_map] at q
          cases hq : ks[i]? with
          | none => rw [hq] at q; cases q
          | some p =>
            rw [hq] at q
            exact ⟨p, rfl, (Option.some.inj q).symm⟩
        have none_of : ∀ b, s.heap.objs.size ≤ b → s.heap.get? b = none := fun b hb => by
          cases q : s.heap.get? b with
          | none => rfl
          | some o => exact absurd (Nat.lt_of_lt_of_le (Heap.lt_size q) hb) (Nat.lt_irrefl _)
        refine set_update_tups ((Walks.list hh3 _ l hneI items).toS) s.heap.objs.size
          hSf ks hisz hfew hval s.heap hk (none_of _ (Nat.le_refl _)) (fun b hb => none_of b (by
            rw [List.mem_singleton.mp hb, Heap.size_push]
            exact Nat.le_succ _)) hu (items.size - 0) 0 _ (by omega) (Nat.zero_le _)
          ⟨⟨_, Heap.get?_push_size _ rfl, rfl, rfl⟩, (hl1.push _)⟩ (fun b o e => Heap.get?_push_of_some _ (Heap.get?_push_of_some _ e)) ?hS0 ?hR
        case hS0 =>
          have hget : ((s.heap.push { cls := .type "set", dict := none, data := .set #[] 0 (.fresh 0 0 (!w.params.followText "set-order")) }).push { cls := .type "list_iterator", data := .fields #[.ref l, .int 0 0] }).get? s.heap.objs.size
              = some { cls := .type "set", dict := none, data := .set #[] 0 (.fresh 0 0 (!w.params.followText "set-order")) } := Heap.get?_push_of_some _ hS
          exact ⟨[], #[], 0, _, setG_fresh hget, Got.zero ks⟩
        case hR =>
          intro s' L es ep t hm hS' g' hkp
          obtain ⟨h', g2, d', tk', os'⟩ := s'
          have eg : g2 = s.gens := hm.gens
          have ed : d' = s.drawn := hm.drawn
          have eo : os' = s.os := hm.os
          subst eg; subst ed; subst eo
          show wpAny _ _ _ _ _ _
          refine wpAny_pure ?_
          show wpAny _ _ (ret Value.none) _ _ _
          rw [hisz] at g'
          exact wpAny_pure ⟨rfl, h', tk', L, es, ep, t, rfl, hS', g', hkp⟩

      · cases r₂ with
        | error e => exact hr₂
        | ok fl₂ =>
          cases fl₂ with
          | ret r =>
            obtain ⟨rfl, h', tk, L, es, ep, t, rfl, hS', g', hk'⟩ := hr₂
            repeat (any_goals (first | assumption | wp_step))
            exact h _ _ _ _ _ _ hS' g' hk'
          | _ => exact hr₂.elim
    | _ => exact hr.elim

end
end TG

/-! Q2 -/
/-! ### sets of steps: len(set(xs)) -/
namespace TG
open PySem PySem.Spec PyProof.Rows L2 Rw
section
variable {P : Program} {w : World} {A : Around} {E : Value → Shared → Prop} {s : Shared}
theorem ofA_str (n : Nat) (x : Str) (t : Tok) : ofAClassStatement n (.str x t) = pure false := by cases n <;> rfl
theorem hby_str (n : Nat) (x : Str) (t : Tok) : hashByValue n (.str x t) = pure false := by cases n <;> rfl
theorem str_items {k : List Str} {vs : List Value} (h : ItemsAre (strKind P w) k vs) : ∀ v ∈ vs, ∃ x t, v = Value.str x t := by
  induction h with
  | nil => intro v hv; cases hv
  | @cons k0 v' ks vs h1 _ ih =>
    intro v hv
    rcases List.mem_cons.mp hv with e | hv
    · obtain ⟨t, e2⟩ := Value.isStrOf_shape (x := k0) (v := v') h1
      exact ⟨k0, t, e.trans e2⟩
    · exact ih v hv
theorem ofA_txt {k : List Str} {b : Addr} {Q : Bool → Shared → Prop} (hk : IsTupleKey (strKind P w) s.heap k b) (h : Q false s) : wpAny (model P w) A (ofAClassStatement 8 (.ref b)) Q E s := by
  have hT := hk.typeIs
  obtain ⟨o, items, n, ho, _, hd, hi⟩ := hk
  unfold ofAClassStatement
  refine wpAny_bind (wpAny_typeOf hT ?_)
  dsimp only
  have e : (("tuple" : String) == "tuple") = true := by decide
  simp only [e, if_true, Bool.not_true, Bool.false_eq_true, if_false]
  try refine wpAny_bind (wpAny_pure ?_)
  try simp only [Bool.not_true, Bool.false_eq_true, if_false]
  show wpAny _ _ (seqItems? (.ref b) >>= _) _ _ s
  refine wpAny_bind (wpAny_seqItems ho hd ?_)
  dsimp only
  refine wpAny_bind ?_
  show wpAny _ _ (forIn items _ _) _ _ s
  rw [← Array.forIn_toList]
  refine wpAny_forIn_list _ (fun rest r s' => r.1 = none ∧ s' = s ∧ ∀ v ∈ rest, ∃ x t, v = Value.str x t) _ ?_ ?_ _ _ ⟨rfl, rfl, str_items hi⟩
  · rintro v rest r s' ⟨hr, rfl, hall⟩
    obtain ⟨x, t, rfl⟩ := hall v List.mem_cons_self
    rw [ofA_str]
    refine wpAny_bind (wpAny_pure ?_)
    simp only [Bool.false_eq_true, if_false]
    exact wpAny_pure ⟨rfl, rfl, fun u hu' => hall u (List.mem_cons_of_mem _ hu')⟩
  · rintro ⟨r1, r2⟩ s' ⟨hr, rfl, _⟩
    simp only at hr
    subst hr
    exact wpAny_pure h
theorem hby_txt {k : List Str} {b : Addr} {Q : Bool → Shared → Prop} (hk : IsTupleKey (strKind P w) s.heap k b) (h : ∀ b, Q b s) : wpAny (model P w) A (hashByValue 8 (.ref b)) Q E s := by
  have hT := hk.typeIs
  obtain ⟨o, items, n, ho, _, hd, hi⟩ := hk
  unfold hashByValue
  refine wpAny_bind (wpAny_specialOf hT F.slot_tuple_hash.lookup ?_)
  show wpAny _ _ (seqItems? (.ref b) >>= _) _ _ s
  refine wpAny_bind (wpAny_seqItems ho hd ?_)
  refine wpAny_bind ?_
  show wpAny _ _ (forIn items _ _) _ _ s
  rw [← Array.forIn_toList]
  refine wpAny_forIn_list _ (fun rest r s' => (r.1 = none ∨ ∃ z, r.1 = some z) ∧ s' = s ∧ ∀ v ∈ rest, ∃ x t, v = Value.str x t) _ ?_ ?_ _ _ ⟨.inl rfl, rfl, str_items hi⟩
  · rintro v rest r s' ⟨hr, rfl, hall⟩
    obtain ⟨x, t, rfl⟩ := hall v List.mem_cons_self
    rw [hby_str]
    refine wpAny_bind (wpAny_pure ?_)
    simp only [Bool.not_false, if_true]
    exact wpAny_pure (wpAny_pure (h false))
  · rintro ⟨r1, r2⟩ s' ⟨hr, rfl, _⟩
    simp only at hr
    rcases hr with hr | ⟨z, hr⟩ <;> subst hr <;> exact wpAny_pure (h _)
end
/-- tuples of texts -/
def txtKd (P : Program) (w : World) : SetKd P w (List Str) where
  knd := tupleKind (strKind P w)
  ofA := fun hk h => ofA_txt hk h
  hby := fun hk h => hby_txt hk h
  keepS := fun {h h' k a b o es ep t} hb ho hd hs => by
    obtain ⟨o', items, n, ho', hc, hd', hi⟩ := hb
    have hne : b ≠ a := fun z => by
      rw [z, ho] at ho'; cases ho'
      rw [hd] at hd'; cases hd'
    exact ⟨o', items, n, (hs.2 b hne).trans ho', hc, hd', hi⟩
  keepA := fun {h h' k b} hb hk => by
    obtain ⟨o', items, n, ho', r⟩ := hb
    exact ⟨o', items, n, hk b o' ho', r⟩
theorem txt_items {P : Program} {w : World} : ∀ {k : List Str} {us : List Value}, Vals (k.map V.str) us → ItemsAre (strKind P w) k us
  | [], _, .nil => .nil
  | n :: k, _, .cons r t => by
    obtain ⟨tk, rfl⟩ := r
    exact .cons (strKind_is P w n tk) (txt_items t)
theorem dup_len {α : Type} [DecidableEq α] : ∀ (l m : List α), l.Nodup → (∀ x ∈ l, x ∈ m) → l.length ≤ m.length
  | [], m, _, _ => Nat.zero_le _
  | a :: l, m, nd, h => by
    have nd := List.nodup_cons.mp nd
    have ha := h a List.mem_cons_self
    have e := List.length_erase_of_mem ha
    have ih := dup_len l (m.erase a) nd.2 fun x hx => (List.mem_erase_of_ne fun (z : x = a) => nd.1 (by rw [← z]; exact hx)).mpr (h x (List.mem_cons_of_mem _ hx))
    have pos : 0 < m.length := List.length_pos_of_mem ha
    rw [List.length_cons]
    omega
theorem not_nodup {α : Type} [DecidableEq α] : ∀ m : List α, ¬ m.Nodup → ∃ m' : List α, m'.length < m.length ∧ ∀ x ∈ m, x ∈ m'
  | [], h => absurd List.nodup_nil h
  | a :: m, h => by
    by_cases ha : a ∈ m
    · refine ⟨m, by rw [List.length_cons]; omega, fun x hx => ?_⟩
      rcases List.mem_cons.mp hx with e | hx
      · rw [e]; exact ha
      · exact hx
    · obtain ⟨m', h1, h2⟩ := not_nodup m fun nd => h (List.nodup_cons.mpr ⟨ha, nd⟩)
      refine ⟨a :: m', by rw [List.length_cons, List.length_cons]; omega, fun x hx => ?_⟩
      rcases List.mem_cons.mp hx with e | hx
      · rw [e]; exact List.mem_cons_self
      · exact List.mem_cons_of_mem _ (h2 x hx)
def stepK (s : Rw.Step) : List Str := [s.1, s.2]
theorem stepK_inj {s t : Rw.Step} (h : stepK s = stepK t) : s = t := by
  obtain ⟨a, b⟩ := s
  obtain ⟨c, d⟩ := t
  unfold stepK at h
  injection h with h1 h2
  injection h2 with h2 _
  exact Prod.ext h1 h2
theorem steps_keys {K : PySem.W.Frag} {H : Hp} : ∀ {xs : List V} {ss : List Rw.Step}, StepsAt K H xs ss → ∃ ks : List (Addr × List Str), xs = ks.map (fun p => V.ref p.1) ∧ ks.map (·.2) = ss.map stepK ∧ ∀ p ∈ ks, SqT K H p.1 (p.2.map V.str)
  | [], [], _ => ⟨[], rfl, rfl, fun p hp => by cases hp⟩
  | x :: xs, s :: ss, .cons ⟨p, e, q⟩ t => by
    obtain ⟨ks, e1, e2, e3⟩ := steps_keys t
    refine ⟨(p, stepK s) :: ks, by rw [e, e1]; rfl, by rw [List.map_cons, List.map_cons, e2], fun z hz => ?_⟩
    rcases List.mem_cons.mp hz with e | hz
    · rw [e]; exact q
    · exact e3 z hz
theorem refs_vals {κ : Type} : ∀ {ks : List (Addr × κ)} {us : List Value}, Vals (ks.map fun p => V.ref p.1) us → us = ks.map fun p => Value.ref p.1
  | [], _, .nil => rfl
  | p :: ks, _, .cons r t => by
    cases r
    rw [refs_vals t]; rfl
def tLenSetS (K : PySem.W.Frag) (ta : TE) : TE := fun σ H Q => ta σ H fun x H1 => ∃ (l : Addr) (xs : List V) (ss : List Rw.Step), x = .ref l ∧ SqL K H1 l xs ∧ StepsAt K H1 xs ss ∧ ss.length < 64 ∧ ∀ n : Nat, (ss.Nodup → n = ss.length) → (¬ ss.Nodup → n < ss.length) → Q (.int (n : Nat)) H1
theorem pe_lenSetS {X : Cx} {a : Expr} {ta : TE} {p p2 q pos : Pos} (hg : Gl X "len") (hm : X.mg "len" = none) (hg2 : Gl X "set") (hm2 : X.mg "set" = none) (hu : X.A.units + 64 < cLine) (ha : PE X a ta) (hc : X.calm = true := by rfl)
    (na : starEach [a] X.env = (false, eval a X.env) :: starEach [] X.env := by rfl) : PE X (.Call (.Name "len" p) [.Call (.Name "set" p2) [a] [] q] [] pos) (tLenSetS X.K ta) := by
  refine ⟨fun pins s σ H Q I h => ?_⟩
  refine Call_ (ld_blt I hg hm boot_len ?_)
  refine PyProof.Rows.callWith_builtin1 (PyProof.Rows.args_cons ?_ rfl) rfl rfl
  refine Call_ (ld_blt I hg2 hm2 boot_set ?_)
  refine PyProof.Rows.callWith_type1 (PyProof.Rows.args_cons (thn (ha.run pins s σ H _ I h) fun v s1 ⟨x, H1, I1, r1, q1⟩ => PyProof.Rows.args_nil ?_) na) na rfl
  obtain ⟨l, xs, ss, rfl, hq, hs, hl, q1⟩ := q1
  cases r1
  obtain ⟨its, r, pl, hz⟩ := I1.list hq
  obtain ⟨ks, rfl, e2, hk⟩ := steps_keys hs
  have lk : ks.length = ss.length := by
    have z := congrArg List.length e2
    rw [List.length_map, List.length_map] at z
    exact z
  have hits : its = ks.map fun p => Value.ref p.1 := refs_vals r
  have hu3 : (txtKd X.prog X.w).knd.room X.A.in1.in1.in1 := by
    show X.A.units + 1 + 1 + 1 < cLine
    omega
  refine call_set_tups (S := txtKd X.prog X.w) ks (I1.ok.hd hc) pl.isList (by simpa using hits) (fun p hp => ?_) (by omega) hu3 fun h' tk L es ep t R g k => ?_
  · obtain ⟨us, ru, ⟨o, ho, hcl, n, hd⟩, _⟩ := I1.tuple (hk p hp)
    exact ⟨o, us.toArray, n, ho, hcl, hd, by simpa using txt_items ru⟩
  · refine PyProof.Rows.args_nil ?_
    obtain ⟨o, ho, hex, hd⟩ := R.ob
    have I2 : Inv X pins σ H1 { s1 with heap := h', toks := tk } := I1.kept k
    have hn : es.size = L.length := SetG.size (s := { s1 with heap := h', toks := tk }) R
    have few := R.few
    refine call_len_set ho hex hd (SetG.fits (s := { s1 with heap := h', toks := tk }) R) (by rw [hn] <;> omega) ⟨.int L.length, H1, I2.tok _, ⟨_, by rw [hn]⟩, q1 L.length (fun nd => ?_) fun nd => ?_⟩
    · have nk : (ks.map (·.2)).Nodup := by rw [e2]; exact List.Pairwise.map stepK (fun a b hne e => hne (stepK_inj e)) nd
      have u1 := dup_len (L.map (·.2)) (ks.map (·.2)) R.nd fun x hx => by
        obtain ⟨p, hp, rfl⟩ := List.mem_map.mp hx
        have z := g.sub p hp
        rw [List.take_length] at z
        exact List.mem_map_of_mem z
      have u2 := dup_len (ks.map (·.2)) (L.map (·.2)) nk fun x hx => by
        obtain ⟨p, hp, rfl⟩ := List.mem_map.mp hx
        exact g.all p (by rw [List.take_length]; exact hp)
      rw [List.length_map, List.length_map] at u1 u2
      omega
    · have nk : ¬ (ks.map (·.2)).Nodup := fun z => by
        rw [e2] at z
        exact nd (nodup_of_map z)
      obtain ⟨m', h1, h2⟩ := not_nodup _ nk
      have u1 := dup_len (L.map (·.2)) m' R.nd fun x hx => by
        obtain ⟨p, hp, rfl⟩ := List.mem_map.mp hx
        have z := g.sub p hp
        rw [List.take_length] at z
        exact h2 _ (List.mem_map_of_mem z)
      rw [List.length_map] at u1 h1
      omega
end TG

/-! G1 -/
/-! ### generators that sleep while their consumer does what it likes -/
namespace L2
open PySem PySem.Spec PyProof.Rows GenW

/-- how far it is: how many items are out, the consumer's list as it stands -/
abbrev Gh := Nat × Option Obj
/-- a sleep: what stands at Ts may change, what is tracked may grow -/
structure Slp (P : Program) (w : World) (fs Ts : List Addr) (H H' : Hp) (s z : Shared) : Prop where
  os : z.os = s.os
  bare : AllBare z.gens
  un : Un fs Ts H H' s.heap z.heap
  hok : HOk P w H' z.heap
  more : ∀ b o, H b = some o → H' b = some o
  ts : ∀ b ∈ Ts, H' b = none ∧ ∃ o, z.heap.get? b = some o ∧ ∀ v, o.data ≠ .cell v
/-- awake since s₀: what stands at Ts is as it was then -/
def GJ (X : Cx) (Ts : List Addr) (ip : List (Addr × Obj)) (σ : St) (H : Hp) (s₀ s : Shared) : Prop :=
  ∃ os : List (Addr × Obj), os.map Prod.fst = Ts ∧ (∀ p ∈ os, s₀.heap.get? p.1 = some p.2) ∧ Inv X (os ++ ip) σ H s

theorem pinsAt_fst {h : Heap} : ∀ {Ts : List Addr}, (∀ b ∈ Ts, ∃ o, h.get? b = some o) → (pinsAt Ts h).map Prod.fst = Ts
  | [], _ => rfl
  | b :: r, hb => by
    obtain ⟨o, e⟩ := hb b List.mem_cons_self
    have ih := pinsAt_fst (h := h) (Ts := r) fun c hc => hb c (List.mem_cons_of_mem _ hc)
    show (List.filterMap _ (b :: r)).map Prod.fst = _
    rw [List.filterMap_cons_some (b := (b, o)) (by rw [e]; rfl), List.map_cons]
    exact congrArg (b :: ·) ih
theorem fs_stack {X : Cx} (ok : X.Ok) : ∀ b ∈ X.fs, b ∈ frs X.stack := fun b hb => by
  rcases ok.stk with e | ⟨e, hf⟩
  · rw [e]; exact hb
  · rw [e]; unfold frs; rw [List.filterMap_cons, hf]; exact List.mem_cons_of_mem _ hb
section
variable {X : Cx} {Ts : List Addr} {ip : List (Addr × Obj)} {σ : St} {H H' : Hp} {s₀ s z : Shared}
theorem GJ.at (h : GJ X Ts ip σ H s₀ s) : ∀ b ∈ Ts, H b = none ∧ b ∉ X.fs ∧ b ≠ X.env.locals ∧ ∃ o, s₀.heap.get? b = some o ∧ s.heap.get? b = some o := fun b hb => by
  obtain ⟨os, e, e0, I⟩ := h
  rw [← e] at hb
  obtain ⟨p, hp, rfl⟩ := List.mem_map.mp hb
  obtain ⟨h1, h2, h3, h4, _⟩ := I.pin p (List.mem_append_right _ (List.mem_append_left _ hp))
  exact ⟨h2, h4, h3, p.2, e0 p hp, h1⟩
theorem GJ.inv (h : GJ X Ts ip σ H s₀ s) : Inv X ip σ H s := by
  obtain ⟨os, _, _, I⟩ := h
  exact I.pins_of fun p hp => I.pin p (List.mem_append_right _ (List.mem_append_right _ hp))
/-- woken -/
theorem GJ.woken (hp : ∀ p ∈ X.pn ++ ip, p.1 ∉ Ts) (hA : ∀ S ∈ Ts, Apart X S) (h : GJ X Ts ip σ H s₀ s) (q : Slp X.prog X.w X.fs Ts H H' s z) : GJ X Ts ip σ H' z z := by
  have I0 := h.inv
  have I1 : Inv X ip σ H' z := I0.call' (ch := Ts) q.os (q.un.mono (fun b hb => fs_stack I0.ok b hb) fun _ z => z) q.hok q.bare fun b hb =>
    ⟨.inr (hA b hb).1, (hA b hb).2.1, (hA b hb).2.2, fun p hpp e => hp p hpp (e ▸ hb)⟩
  refine ⟨pinsAt Ts z.heap, pinsAt_fst fun b hb => let ⟨_, o, e, _⟩ := q.ts b hb; ⟨o, e⟩, fun p hpp => (of_pinsAt hpp).2, I1.pins_of fun p hpp => ?_⟩
  rcases List.mem_append.mp hpp with hpp | hpp
  · obtain ⟨hb, e⟩ := of_pinsAt hpp
    obtain ⟨h1, o, e1, h2⟩ := q.ts p.1 hb
    rw [e] at e1; cases e1
    obtain ⟨_, h3, h4, _⟩ := h.at p.1 hb
    exact ⟨e, h1, h4, h3, h2⟩
  · exact I1.pin p (List.mem_append_right _ hpp)
end

/-- what the consumer wants: its list's place, what stands still at a run, what it hands over at each waking, what it wants of each item -/
structure Wsh where
  D : Addr
  Ts : List Addr
  Cw : Gh → Hp → Prop
  Yw : Gh → V → Hp → Prop
def GYs (X : Cx) (W : Wsh) : Protocol := fun n s₀ v s kap =>
  ∃ g x ip σ H, n + 1 + g.1 = sizeLine ∧ g.2 = s₀.heap.get? W.D ∧ RelV x v ∧ GJ X W.Ts ip σ H s₀ s ∧ W.Yw g x H ∧
    ∀ H' z, Slp X.prog X.w X.fs W.Ts H H' s z → W.Cw (g.1 + 1, z.heap.get? W.D) H' → kap (.send .none) z
structure GE where
  nx : Gh → St → Hp → Prop
  rt : Gh → VK
  bk : Gh → St → Hp → Prop := fun _ _ _ => False
  ct : Gh → St → Hp → Prop := fun _ _ _ => False
abbrev TGg := GE → Gh → St → Hp → Prop
def GE.at (D : GE) (g : Gh) : Ends := { nx := D.nx g, rt := D.rt g, bk := D.bk g, ct := D.ct g }
def GPs (X : Cx) (W : Wsh) (ip : List (Addr × Obj)) (D : GE) (g : Gh) (s₀ : Shared) (f : Flow) (s : Shared) : Prop :=
  match f with
  | .next => ∃ σ H, GJ X W.Ts ip σ H s₀ s ∧ D.nx g σ H
  | .brk => ∃ σ H, GJ X W.Ts ip σ H s₀ s ∧ D.bk g σ H
  | .cont => ∃ σ H, GJ X W.Ts ip σ H s₀ s ∧ D.ct g σ H
  | .ret u => ∃ v σ H, GJ X W.Ts ip σ H s₀ s ∧ RelV v u ∧ D.rt g v H
structure GCs (X : Cx) (W : Wsh) (ip : List (Addr × Obj)) (A : Around) (c : Code) (fs : List Frame) (gd : Bool → Bool) : Prop where
  pn : ∀ p ∈ X.pn ++ ip, p.1 ∉ W.Ts
  apart : ∀ S ∈ W.Ts, Apart X S
  over : A.over c fs = X.A
  split : splitAtGen fs = none
  guard : fs.any Frame.guarded = false
  gd : gd false = false
structure GKs (X : Cx) (W : Wsh) (ip : List (Addr × Obj)) (A : Around) (R : GenEnd) (c : Code) (fs : List Frame) (K : Flow → Sem PySem.Fin) (J : Value → Sem PySem.Fin) (D : GE) : Prop where
  ok : ∀ (n : Nat) (g : Gh) (s₀ s : Shared) (f : Flow), n + g.1 = sizeLine → g.2 = s₀.heap.get? W.D → GPs X W ip D g s₀ f s → Seg (model X.prog X.w) A R (GYs X W) n s₀ c (K f) fs s
  exc : ∀ (n : Nat) (s₀ : Shared) (e : Value) (s : Shared), X.xe e s → Seg (model X.prog X.w) A R (GYs X W) n s₀ c (J e) fs s
structure GT (X : Cx) (W : Wsh) (st : Stmt) (t : TGg) : Prop where
  run : ∀ (A : Around) (ip : List (Addr × Obj)) (R : GenEnd) (n : Nat) (g : Gh) (s₀ : Shared) (c : Code) (fs : List Frame) (K : Flow → Sem PySem.Fin) (J : Value → Sem PySem.Fin) (gd : Bool → Bool) (lv : List Value → List Value) (s : Shared) (σ : St) (H : Hp) (D : GE),
    GCs X W ip A c fs gd → n + g.1 = sizeLine → g.2 = s₀.heap.get? W.D → GKs X W ip A R c fs K J D → GJ X W.Ts ip σ H s₀ s → t D g σ H →
    Seg (model X.prog X.w) A R (GYs X W) n s₀ c ((exec st X.env).wrap K J gd lv) fs s
structure GTs (X : Cx) (W : Wsh) (st : List Stmt) (t : TGg) : Prop where
  run : ∀ (A : Around) (ip : List (Addr × Obj)) (R : GenEnd) (n : Nat) (g : Gh) (s₀ : Shared) (c : Code) (fs : List Frame) (K : Flow → Sem PySem.Fin) (J : Value → Sem PySem.Fin) (gd : Bool → Bool) (lv : List Value → List Value) (s : Shared) (σ : St) (H : Hp) (D : GE),
    GCs X W ip A c fs gd → n + g.1 = sizeLine → g.2 = s₀.heap.get? W.D → GKs X W ip A R c fs K J D → GJ X W.Ts ip σ H s₀ s → t D g σ H →
    Seg (model X.prog X.w) A R (GYs X W) n s₀ c ((execs st X.env).wrap K J gd lv) fs s

section
variable {X : Cx} {W : Wsh} {st : Stmt} {rest : List Stmt}
theorem sp_gps {ip os : List (Addr × Obj)} {D : GE} {g : Gh} {s₀ s : Shared} {f : Flow} (e : os.map Prod.fst = W.Ts) (e0 : ∀ p ∈ os, s₀.heap.get? p.1 = some p.2) (h : SP X (os ++ ip) (D.at g) f s) : GPs X W ip D g s₀ f s := by
  cases f with
  | next => obtain ⟨σ, H, I, q⟩ := h; exact ⟨σ, H, ⟨os, e, e0, I⟩, q⟩
  | brk => obtain ⟨σ, H, I, q⟩ := h; exact ⟨σ, H, ⟨os, e, e0, I⟩, q⟩
  | cont => obtain ⟨σ, H, I, q⟩ := h; exact ⟨σ, H, ⟨os, e, e0, I⟩, q⟩
  | ret u => obtain ⟨v, σ, H, I, r, q⟩ := h; exact ⟨v, σ, H, ⟨os, e, e0, I⟩, r, q⟩
def tGp (t : TS) : TGg := fun D g σ H => t (D.at g) σ H
/-- a statement that hands out nothing -/
theorem gt_ps {t : TS} (h : PS X st t) : GT X W st (tGp t) := by
  refine ⟨fun A ip R n g s₀ c fs K J gd lv s σ H D cc hn hg k hJ ht => ?_⟩
  obtain ⟨os, e, e0, I⟩ := hJ
  refine seg_wrap ?_
  rw [cc.over]
  exact wpAny_mono (h.run _ s σ H (D.at g) I ht) (fun f s' hs => k.ok n g s₀ s' f hn hg (sp_gps e e0 hs)) fun x s' hx => k.exc n s₀ x s' hx
theorem gts_pss {t : TS} (h : PSs X rest t) : GTs X W rest (tGp t) := by
  refine ⟨fun A ip R n g s₀ c fs K J gd lv s σ H D cc hn hg k hJ ht => ?_⟩
  obtain ⟨os, e, e0, I⟩ := hJ
  refine seg_wrap ?_
  rw [cc.over]
  exact wpAny_mono (h.run _ s σ H (D.at g) I ht) (fun f s' hs => k.ok n g s₀ s' f hn hg (sp_gps e e0 hs)) fun x s' hx => k.exc n s₀ x s' hx
def tGnil : TGg := fun D g σ H => D.nx g σ H
theorem gts_nil : GTs X W [] tGnil := by
  refine ⟨fun A ip R n g s₀ c fs K J gd lv s σ H D cc hn hg k hJ ht => ?_⟩
  exact seg_execs_nil (k.ok n g s₀ s .next hn hg ⟨σ, H, hJ, ht⟩)
def tGcons (t u : TGg) : TGg := fun D g σ H => t { D with nx := fun g' σ' H' => u D g' σ' H' } g σ H
theorem gts_cons {t u : TGg} (a : GT X W st t) (b : GTs X W rest u) : GTs X W (st :: rest) (tGcons t u) := by
  refine ⟨fun A ip R n g s₀ c fs K J gd lv s σ H D cc hn hg k hJ ht => ?_⟩
  refine seg_execs_cons ?_
  refine a.run A ip R n g s₀ c fs _ J gd lv s σ H { D with nx := fun g' σ' H' => u D g' σ' H' } cc hn hg ⟨fun n' g' s₀' s' f hn' hg' hs => ?_, k.exc⟩ hJ ht
  cases f with
  | next =>
    obtain ⟨σ', H', J', q⟩ := hs
    exact b.run A ip R n' g' s₀' c fs K J gd lv s' σ' H' D cc hn' hg' k J' q
  | brk => exact k.ok n' g' s₀' s' .brk hn' hg' hs
  | cont => exact k.ok n' g' s₀' s' .cont hn' hg' hs
  | ret u => exact k.ok n' g' s₀' s' (.ret u) hn' hg' hs
theorem gts_one {t : TGg} (a : GT X W st t) : GTs X W [st] (tGcons t tGnil) := gts_cons a gts_nil
def tGif (tc : TT) (t u : TGg) : TGg := fun D g σ H => tc σ H fun b H1 => if b = true then t D g σ H1 else u D g σ H1
theorem gt_if {test : Expr} {body orelse : List Stmt} {pos : Pos} {tc : TT} {t u : TGg} (hc : PT X test tc) (a : GTs X W body t) (b : GTs X W orelse u) : GT X W (.If test body orelse pos) (tGif tc t u) := by
  refine ⟨fun A ip R n g s₀ c fs K J gd lv s σ H D cc hn hg k hJ ht => ?_⟩
  obtain ⟨os, e, e0, I⟩ := hJ
  show Seg _ _ _ _ n s₀ c (.at pos fun _ => ((isTrue test X.env (eval test X.env)) >>= fun r => if r = true then execs body X.env else execs orelse X.env).wrap K J gd lv) fs s
  refine seg_at (seg_bind_wrap ?_)
  rw [cc.over]
  refine wpAny_mono (hc.run _ s σ H _ I ht) (fun r s' hr => ?_) fun x s' hx => k.exc n s₀ x s' hx
  obtain ⟨H1, I1, q⟩ := hr
  cases r with
  | true =>
    rw [if_pos rfl] at q ⊢
    exact a.run A ip R n g s₀ c fs K J gd lv s' σ H1 D cc hn hg k ⟨os, e, e0, I1⟩ q
  | false =>
    rw [if_neg Bool.false_ne_true] at q ⊢
    exact b.run A ip R n g s₀ c fs K J gd lv s' σ H1 D cc hn hg k ⟨os, e, e0, I1⟩ q

/-! ### yield -/
def tGy (W : Wsh) (te : TE) : TGg := fun D g σ H => g.1 < sizeLine ∧ te σ H fun x H1 => W.Yw g x H1 ∧ ∀ g' H', g'.1 = g.1 + 1 → (∀ b o, H1 b = some o → H' b = some o) → W.Cw g' H' → D.nx g' σ H'
theorem gt_yield {e : Expr} {yp pos : Pos} {te : TE} (he : PE X e te) (hco : X.env.scope.isCoroutine = false := by rfl) (hi : interactive X.env = false := by rfl) : GT X W (.Expr (.Yield (some e) yp) pos) (tGy W te) := by
  refine ⟨fun A ip R n g s₀ c fs K J gd lv s σ H D cc hn hg k hJ ht => ?_⟩
  obtain ⟨hlt, ht⟩ := ht
  obtain ⟨m, rfl⟩ : ∃ m, n = m + 1 := ⟨n - 1, by omega⟩
  obtain ⟨os, e1, e0, I⟩ := hJ
  refine seg_Expr_Yield cc.split cc.gd cc.guard ?_ hco hi
  rw [cc.over]
  refine wpAny_mono (he.run _ s σ H _ I ht) (fun v s' hv => ?_) fun x s' hx => k.exc _ s₀ x s' hx
  obtain ⟨x, H1, I1, rv, qy, qn⟩ := hv
  have J1 : GJ X W.Ts ip σ H1 s₀ s' := ⟨os, e1, e0, I1⟩
  intro kap hk
  refine ⟨g, x, ip, σ, H1, hn, hg, rv, J1, qy, fun H' z q hC => hk .none z ?_⟩
  exact k.ok m (g.1 + 1, z.heap.get? W.D) z z .next (by show m + (g.1 + 1) = _; omega) rfl ⟨σ, H', J1.woken cc.pn cc.apart q, qn _ H' rfl q.more hC⟩
end
end L2

/-! G2 -/
/-! ### loops of a generator -/
namespace L2
open PySem PySem.Spec PyProof.Rows GenW
section
variable {M : Model} {A : Around} {R : GenEnd} {Y : Protocol} {n : Nat} {s₀ s : Shared} {c : Code} {fs : List Frame} {env : Env} {K : Flow → Sem PySem.Fin} {J : Value → Sem PySem.Fin} {gd : Bool → Bool} {lv : List Value → List Value}
theorem seg_runOwn {c' : Code} (h : ∀ p, Seg M A R Y n s₀ c' (M.den c') (.ret (fun r => ((match r with | .ok f => (.pure f : Sem Flow) | .error e => .raise e).onRaise (cameBack env)).wrap K J gd lv) none (gd false) (lv []) c p [] :: fs) s) :
    Seg M A R Y n s₀ c ((runOwn c' env).wrap K J gd lv) fs s := seg_call h
end
section
variable {prog : Program} {w : World} {A : Around} {R : GenEnd} {Y : Protocol} {n : Nat} {s₀ s : Shared} {fs : List Frame} {env : Env}
theorem onRaise_noted {m : Sem PySem.Fin} {env : Env} : (m.onRaise fun x => do noteFrame x env; theTreesLotGoes x) = m.wrap .pure (fun e => (do noteFrame e env; theTreesLotGoes e : Sem Unit).wrap (fun _ => .raise e) .raise id id) id id := by
  rw [Sem.onRaise_eq_wrap]
  refine Sem.wrap_congr _ _ _ (fun _ => rfl) fun e => ?_
  exact Sem.bind_eq_wrap _ _
/-- one turn of a for loop's code -/
theorem seg_forTurn {target : Expr} {it : Value} {body : List Stmt}
    (h : wpAny (model prog w) (A.over (.forLoop target it body [] env) fs) (pyNext it) (fun r s1 => match r with
        | none => Seg (model prog w) A R Y n s₀ (.forLoop target it body [] env) (.pure (.again (.block [] env))) fs s1
        | some v => wpAny (model prog w) (A.over (.forLoop target it body [] env) fs) (letOwnedTupleGo target it v) (fun _ s2 => wpAny (model prog w) (A.over (.forLoop target it body [] env) fs) (assign target env v) (fun _ s3 =>
            Seg (model prog w) A R Y n s₀ (.forLoop target it body [] env) ((execs body env).wrap (fun f => match f with
              | .next | .cont => .pure (.again (.forLoop target it body [] env))
              | .brk => .pure (.done .next)
              | .ret v => .pure (.done (.ret v))) (fun e => (do noteFrame e env; theTreesLotGoes e : Sem Unit).wrap (fun _ => .raise e) .raise id id) id id) fs s3)
            (fun x s' => Seg (model prog w) A R Y n s₀ (.forLoop target it body [] env) ((do noteFrame x env; theTreesLotGoes x : Sem Unit).wrap (fun _ => .raise x) .raise id id) fs s') s2)
            (fun x s' => Seg (model prog w) A R Y n s₀ (.forLoop target it body [] env) ((do noteFrame x env; theTreesLotGoes x : Sem Unit).wrap (fun _ => .raise x) .raise id id) fs s') s1)
      (fun x s' => Seg (model prog w) A R Y n s₀ (.forLoop target it body [] env) ((do noteFrame x env; theTreesLotGoes x : Sem Unit).wrap (fun _ => .raise x) .raise id id) fs s') s) :
    Seg (model prog w) A R Y n s₀ (.forLoop target it body [] env) ((model prog w).den (.forLoop target it body [] env)) fs s := by
  show Seg _ A R Y n s₀ _ ((forTurn target it body [] env).onRaise fun x => do noteFrame x env; theTreesLotGoes x) fs s
  rw [onRaise_noted]
  simp only [forTurn]
  refine seg_bind_wrap (wpAny_standAt (seg_bind_wrap (wpAny_onRaise (wpAny_mono h (fun r s1 h1 => ?_) fun x s' hx => wpAny_standAt hx))))
  cases r with
  | none => exact h1
  | some v =>
    refine seg_bind_wrap (wpAny_mono h1 (fun _ s2 h2 => ?_) fun _ _ hx => hx)
    refine seg_bind_wrap (wpAny_mono h2 (fun _ s3 h3 => ?_) fun _ _ hx => hx)
    rw [Sem.bind_eq_wrap', Sem.wrap_wrap]
    refine Eq.mp (congrArg (fun t => Seg (model prog w) A R Y n s₀ (.forLoop target it body [] env) t fs s3) (Sem.wrap_congr _ _ _ (fun f => ?_) fun e => rfl)) h3
    cases f <;> rfl
end

section
variable {X : Cx} {W : Wsh}
theorem gcs_loop {ip : List (Addr × Obj)} {A : Around} {c c' : Code} {fs : List Frame} {gd : Bool → Bool} {k : Result → Sem PySem.Fin} {l kp : List Value} {p : Pos} (g : GCs X W ip A c fs gd) (hw : c'.weight = 0) (hu : c'.cUnits = 0) :
    GCs X W ip A c' (.ret k none (gd false) l c p kp :: fs) id where
  pn := g.pn
  apart := g.apart
  over := (over_loop hw hu).trans g.over
  split := by show (splitAtGen fs).map _ = none; rw [g.split]; rfl
  guard := by show (gd false || fs.any Frame.guarded) = false; rw [g.gd, g.guard]; rfl
  gd := rfl
theorem gcs_code {ip : List (Addr × Obj)} {A : Around} {c c' : Code} {fs : List Frame} {gd : Bool → Bool} (g : GCs X W ip A c fs gd) (h : A.over c' fs = X.A) : GCs X W ip A c' fs id := ⟨g.pn, g.apart, h, g.split, g.guard, rfl⟩
theorem seg_back {ip : List (Addr × Obj)} {A : Around} {R : GenEnd} {c : Code} {fs : List Frame} {K : Flow → Sem PySem.Fin} {J : Value → Sem PySem.Fin} {gd : Bool → Bool} {lv : List Value → List Value} {D : GE} {n : Nat} {s₀ s : Shared} {e : Value}
    (g : GCs X W ip A c fs gd) (k : GKs X W ip A R c fs K J D) (h : cameBackBy (model X.prog X.w) X.A X.env X.xe e s) :
    Seg (model X.prog X.w) A R (GYs X W) n s₀ c (((Sem.raise e : Sem Flow).onRaise (cameBack X.env)).wrap K J gd lv) fs s := by
  show Seg _ _ _ _ _ _ _ (((cameBack X.env e).bind fun _ => (Sem.raise e : Sem Flow)).wrap K J gd lv) _ _
  rw [Sem.bind_eq_wrap, Sem.wrap_wrap]
  refine seg_wrap ?_
  rw [g.over]
  exact wpAny_mono h (fun _ s' hx => k.exc n s₀ e s' hx) fun x s' hx => k.exc n s₀ x s' hx

/-! ### for -/
def tGFr (wi : TI) (g : TG) (tb : TGg) : TGg := fun D gh σ H => wi σ H fun J H1 => ∃ W : Nat → Nat → Gh → St → Hp → Prop, (∃ m, W 0 m gh σ H1) ∧ ∀ i m gh σ H, W i m gh σ H →
  (J.stop i H ∧ D.nx gh σ H) ∨ (J.go i H ∧ ∃ N : Gh → St → Hp → Prop, (∀ gh' σ' H', N gh' σ' H' → ∃ m', m' < m ∧ W (i + 1) m' gh' σ' H') ∧
    ∀ x H', J.yld i H x H' → g x σ H' fun σ2 H2 => tb { D with nx := N, ct := N, bk := D.nx } gh σ2 H2)
theorem gt_for {tg iter : Expr} {body : List Stmt} {pos : Pos} {wi : TI} {g : TG} {tb : TGg} (hp : PassesOwn (model X.prog X.w) X.A X.env X.xe) (hc : X.calm = true) (hi : PI X tg iter wi) (hg : PG X tg g) (hb : GTs X W body tb)
    (hs : ∀ x, foldedSetIterable iter X.env x = pure x := by intro _; rfl) : GT X W (.For tg iter body [] pos) (tGFr wi g tb) := by
  refine ⟨fun A ip R n gh s₀ c fs K J gd lv s σ H D cc hn hgh k hJ ht => ?_⟩
  obtain ⟨os, eos, e0, I⟩ := hJ
  rw [exec_For]
  refine seg_bind_wrap (wpAny_standAt (seg_bind_wrap ?_))
  rw [cc.over]
  refine wpAny_mono (hi.run _ s σ H _ I ht) (fun v s1 h1 => ?_) fun x s' hx => k.exc n s₀ x s' hx
  refine seg_bind_wrap (wpAny_of_eq (hs v) (seg_bind_wrap (wpAny_standAt (seg_bind_wrap (wpAny_holding ?_)))))
  rw [cc.over]
  refine wpAny_mono h1 (fun itv s2 h2 => ?_) fun x s' hx => k.exc n s₀ x s' hx
  obtain ⟨it, fp, tn, J1, H2, e, I2, T, st2, f2, Wi, ⟨m0, w0⟩, turn⟩ := h2
  subst e
  have stat : ∀ {H' : Hp}, (∀ b ∈ fp, H' b = none) → ∀ b ∈ fp, FpOk X (os ++ ip) H' b := fun hn b hb => ⟨hn b hb, (f2 b hb).2⟩
  have fTs : ∀ b ∈ fp, b ∉ W.Ts := fun b hb hm => by
    rw [← eos] at hm
    obtain ⟨p, hp, e⟩ := List.mem_map.mp hm
    exact (f2 b hb).2.2.2.2.2 p (List.mem_append_right _ (List.mem_append_left _ hp)) e
  refine seg_runOwn fun p => ?_
  have gl := fun (kk : Result → Sem PySem.Fin) => gcs_loop (k := kk) (c' := .forLoop tg (.ref it) body [] X.env) (l := lv []) (kp := []) (p := p) cc rfl rfl
  have gb := fun (kk : Result → Sem PySem.Fin) => gcs_loop (k := kk) (c' := .block [] X.env) (l := lv []) (kp := []) (p := p) cc rfl rfl
  have ee : ∀ (c' : Code) (hw : A.over c' (.ret (fun r => ((match r with | .ok f => (.pure f : Sem Flow) | .error e => .raise e).onRaise (cameBack X.env)).wrap K J gd lv) none (gd false) (lv []) c p [] :: fs) = X.A) (n : Nat) (s₀ : Shared) (x : Value) (s' : Shared), X.xe x s' →
      Seg (model X.prog X.w) A R (GYs X W) n s₀ c' ((do noteFrame x X.env; theTreesLotGoes x : Sem Unit).wrap (fun _ => .raise x) .raise id id)
        (.ret (fun r => ((match r with | .ok f => (.pure f : Sem Flow) | .error e => .raise e).onRaise (cameBack X.env)).wrap K J gd lv) none (gd false) (lv []) c p [] :: fs) s' := fun c' hw n s₀ x s' hx => by
    refine seg_wrap ?_
    rw [hw]
    refine wpAny_bind (wpAny_mono (hp x s' hx) (fun _ s'' hcb => wpAny_theTreesLotGoes ?_) fun y s'' hcb => ?_)
    · exact seg_leaf (.error x) (seg_back cc k hcb)
    · exact seg_leaf (.error y) (seg_back cc k hcb)
  have loop : ∀ (m i n : Nat) (gh : Gh) (s₀ s : Shared) (σ : St) (H : Hp), n + gh.1 = sizeLine → gh.2 = s₀.heap.get? W.D → Wi i m gh σ H → GJ X W.Ts ip σ H s₀ s → tn i s.heap → (∀ b ∈ fp, H b = none) →
      Seg (model X.prog X.w) A R (GYs X W) n s₀ (.forLoop tg (.ref it) body [] X.env) ((model X.prog X.w).den (.forLoop tg (.ref it) body [] X.env))
        (.ret (fun r => ((match r with | .ok f => (.pure f : Sem Flow) | .error e => .raise e).onRaise (cameBack X.env)).wrap K J gd lv) none (gd false) (lv []) c p [] :: fs) s := by
    intro m
    induction m using Nat.strongRecOn with
    | ind m ih =>
      intro i n gh s₀ s σ H hn hgh w hJ st fr
      obtain ⟨os, eos, e0, I⟩ := hJ
      have fpo : ∀ {H' : Hp}, (∀ b ∈ fp, H' b = none) → ∀ b ∈ fp, FpOk X (os ++ ip) H' b := fun hn' b hb => by
        obtain ⟨_, z1, z2, z3, z4, z5⟩ := f2 b hb
        refine ⟨hn' b hb, z1, z2, z3, z4, fun q hq => ?_⟩
        rcases List.mem_append.mp hq with hq | hq
        · exact z5 q (List.mem_append_left _ hq)
        · rcases List.mem_append.mp hq with hq | hq
          · exact fun e => fTs b hb (by rw [← eos, ← e]; exact List.mem_map_of_mem hq)
          · exact z5 q (List.mem_append_right _ (List.mem_append_right _ hq))
      refine seg_forTurn ?_
      rw [(gl _).over]
      rcases turn i m gh σ H w with ⟨stop, qn⟩ | ⟨go, N, hN, step⟩
      · refine wpAny_mono (T.done X rfl rfl rfl hc i _ s σ H X.xe I (fpo fr) st stop) (fun r s4 hr4 => ?_) fun x s' hx => ee _ (gl _).over n s₀ x s' hx
        obtain ⟨hr, I4⟩ := hr4
        subst hr
        refine seg_again rfl ?_
        show Seg _ _ _ _ _ _ _ (((execs [] X.env).onRaise fun x => do noteFrame x X.env; theTreesLotGoes x) >>= fun f => pure (.done f)) _ _
        refine seg_bind (wpAny_onRaise (wpAny_execs_nil ?_))
        exact seg_leaf (.ok .next) (k.ok n gh s₀ s4 .next hn hgh ⟨σ, H, ⟨os, eos, e0, I4⟩, qn⟩)
      · refine wpAny_mono (T.item X rfl rfl rfl hc i _ s σ H X.xe I (fpo fr) st go) (fun r s4 hr4 => ?_) fun x s' hx => ee _ (gl _).over n s₀ x s' hx
        obtain ⟨u, hr, h4⟩ := hr4
        subst hr
        refine wpAny_mono h4 (fun _ s5 h5 => ?_) fun x s' hx => ee _ (gl _).over n s₀ x s' hx
        obtain ⟨x, H5, I5, r5, y5, st5, fr5⟩ := h5
        have I5' := I5.pinned (fpo fr5) (T.obj _ _ st5)
        have I5'' : Inv X (os ++ (ip ++ pinsAt fp s5.heap)) σ H5 s5 := by rw [← List.append_assoc]; exact I5'
        refine wpAny_mono (hg.run _ s5 σ H5 x u _ I5'' r5 (step x H5 y5)) (fun _ s6 h6 => ?_) fun x s' hx => ee _ (gl _).over n s₀ x s' hx
        obtain ⟨σ6, H6, I6, q6⟩ := h6
        have J6 : GJ X W.Ts (ip ++ pinsAt fp s5.heap) σ6 H6 s₀ s6 := ⟨os, eos, e0, I6⟩
        have cb := fun (kk : Result → Sem PySem.Fin) => (⟨fun q hq => by
          rcases List.mem_append.mp hq with hq | hq
          · exact cc.pn q (List.mem_append_left _ hq)
          · rcases List.mem_append.mp hq with hq | hq
            · exact cc.pn q (List.mem_append_right _ hq)
            · exact fTs _ (of_pinsAt hq).1, cc.apart, (gl kk).over, (gl kk).split, (gl kk).guard, rfl⟩ : GCs X W (ip ++ pinsAt fp s5.heap) A (.forLoop tg (.ref it) body [] X.env) (.ret kk none (gd false) (lv []) c p [] :: fs) id)
        have again : ∀ {n' : Nat} {gh' : Gh} {s₀' s7 : Shared} {σ7 : St} {H7 : Hp}, n' + gh'.1 = sizeLine → gh'.2 = s₀'.heap.get? W.D → GJ X W.Ts (ip ++ pinsAt fp s5.heap) σ7 H7 s₀' s7 → N gh' σ7 H7 →
            Seg (model X.prog X.w) A R (GYs X W) n' s₀' (.forLoop tg (.ref it) body [] X.env) (.pure (.again (.forLoop tg (.ref it) body [] X.env)))
              (.ret (fun r => ((match r with | .ok f => (.pure f : Sem Flow) | .error e => .raise e).onRaise (cameBack X.env)).wrap K J gd lv) none (gd false) (lv []) c p [] :: fs) s7 := fun {n' gh' s₀' s7 σ7 H7} hn' hgh' J7 n7 => by
          obtain ⟨m', hm, w7⟩ := hN gh' σ7 H7 n7
          obtain ⟨os7, eos7, e07, I7⟩ := J7
          have pin7 : ∀ b ∈ fp, ∀ o, s5.heap.get? b = some o → s7.heap.get? b = some o ∧ H7 b = none := fun b hb o e =>
            let z := I7.pin (b, o) (List.mem_append_right _ (List.mem_append_right _ (List.mem_append_right _ (mem_pinsAt hb e))))
            ⟨z.1, z.2.1⟩
          refine seg_again rfl (ih m' hm (i + 1) n' gh' s₀' s7 σ7 H7 hn' hgh' w7 ⟨os7, eos7, e07, I7.pins_of fun q hq => ?_⟩ (T.keep _ _ _ st5 fun b hb o e => (pin7 b hb o e).1) fun b hb => ?_)
          · rcases List.mem_append.mp hq with hq | hq
            · exact I7.pin q (List.mem_append_right _ (List.mem_append_left _ hq))
            · exact I7.pin q (List.mem_append_right _ (List.mem_append_right _ (List.mem_append_left _ hq)))
          · obtain ⟨o, e, _⟩ := T.obj _ _ st5 b hb
            exact (pin7 b hb o e).2
        have drop : ∀ {s₀' s7 : Shared} {σ7 : St} {H7 : Hp}, GJ X W.Ts (ip ++ pinsAt fp s5.heap) σ7 H7 s₀' s7 → GJ X W.Ts ip σ7 H7 s₀' s7 := fun {s₀' s7 σ7 H7} J7 => by
          obtain ⟨os7, eos7, e07, I7⟩ := J7
          refine ⟨os7, eos7, e07, I7.pins_of fun q hq => ?_⟩
          rcases List.mem_append.mp hq with hq | hq
          · exact I7.pin q (List.mem_append_right _ (List.mem_append_left _ hq))
          · exact I7.pin q (List.mem_append_right _ (List.mem_append_right _ (List.mem_append_left _ hq)))
        refine hb.run A (ip ++ pinsAt fp s5.heap) R n gh s₀ _ _ _ _ id id s6 σ6 H6 { D with nx := N, ct := N, bk := D.nx } (cb _) hn hgh ⟨fun n' gh' s₀' s7 f hn' hgh' hs7 => ?_, fun n' s₀' x s7 hx => ee _ (gl _).over n' s₀' x s7 hx⟩ J6 q6
        cases f with
        | next => obtain ⟨σ7, H7, J7, n7⟩ := hs7; exact again hn' hgh' J7 n7
        | cont => obtain ⟨σ7, H7, J7, n7⟩ := hs7; exact again hn' hgh' J7 n7
        | brk => obtain ⟨σ7, H7, J7, q7⟩ := hs7; exact seg_leaf (.ok .next) (k.ok n' gh' s₀' s7 .next hn' hgh' ⟨σ7, H7, drop J7, q7⟩)
        | ret v => obtain ⟨x7, σ7, H7, J7, r7, q7⟩ := hs7; exact seg_leaf (.ok (.ret v)) (k.ok n' gh' s₀' s7 (.ret v) hn' hgh' ⟨x7, σ7, H7, drop J7, r7, q7⟩)
  exact loop m0 0 n gh s₀ s2 σ H2 hn hgh w0 ⟨os, eos, e0, I2⟩ st2 fun b hb => (f2 b hb).1
end
end L2

/-! G3 -/
/-! ### yield from a list -/
namespace L2
open PySem PySem.Spec PyProof.Rows GenW
section
variable {prog : Program} {w : World} {A : Around} {E : Value → Shared → Prop} {s : Shared}
theorem special_list_item {it t : Addr} {i : Nat} {items : Array Value} {x : Value} {Q : Option Value → Shared → Prop} (hit : s.heap.IsListIter it t i) (ht : s.heap.IsList t items) (hx : items[i]? = some x)
    (hQ : ∀ h', Heap.IsListIter h' it t (i + 1) → Heap.SameBut it s.heap h' → Q (some x) { s with heap := h' }) : wpAny (model prog w) A (callSpecial? (.ref it) "__next__") Q E s := by
  obtain ⟨o, ho, hc, hd⟩ := id hit
  obtain ⟨ol, hol, _, nl, hdl⟩ := ht
  refine wpAny_callSpecial?_slot (name := Str.ofString "__next__") hit.typeIs slot_listiter_next (wpAny_call_entry slot_listiter_next hit.typeIs entry_listiter_next ?_ (args_listiter_next _))
  show wpAny _ _ (field (.ref it) 0 >>= _) _ _ s
  refine wpAny_bind (wpAny_field ho hd (x := .ref t) rfl ?_)
  show wpAny _ _ (if (Value.ref t == Value.none) = true then _ else _) _ _ s
  rw [if_neg (show ¬ ((Value.ref t == Value.none) = true) from Bool.false_ne_true)]
  show wpAny _ _ (field (.ref it) 1 >>= _) _ _ s
  refine wpAny_bind (wpAny_field ho hd (x := .int i 0) rfl ?_)
  show wpAny _ _ (seqItems? (.ref t) >>= _) _ _ s
  refine wpAny_bind (wpAny_seqItems hol hdl ?_)
  simp only [Int.toNat_natCast, hx]
  refine wpAny_bind (wpAny_setField ho hd (by simp) (wpAny_pure ⟨x, rfl, hQ _ ?_ (Heap.SameBut.update ..)⟩))
  exact ⟨_, Heap.get?_update_self _ ho (Obj.isFreed_of_fields (Obj.data_mapFields hd _)), (Obj.cls_mapFields ..).trans hc, by
    rw [Obj.data_mapFields hd]; simp [rawInt]⟩
theorem special_list_end {it t : Addr} {i : Nat} {items : Array Value} {Q : Option Value → Shared → Prop} (hh : A.handled = none) (hit : s.heap.IsListIter it t i) (ht : s.heap.IsList t items) (hx : items[i]? = none)
    (hE : ∀ e h', StopX e h' → Heap.ExtBut it s.heap h' → E e { s with heap := h' }) : wpAny (model prog w) A (callSpecial? (.ref it) "__next__") Q E s := by
  obtain ⟨o, ho, hc, hd⟩ := id hit
  obtain ⟨ol, hol, _, nl, hdl⟩ := ht
  refine wpAny_callSpecial?_slot (name := Str.ofString "__next__") hit.typeIs slot_listiter_next (wpAny_call_entry slot_listiter_next hit.typeIs entry_listiter_next ?_ (args_listiter_next _))
  show wpAny _ _ (field (.ref it) 0 >>= _) _ _ s
  refine wpAny_bind (wpAny_field ho hd (x := .ref t) rfl ?_)
  show wpAny _ _ (if (Value.ref t == Value.none) = true then _ else _) _ _ s
  rw [if_neg (show ¬ ((Value.ref t == Value.none) = true) from Bool.false_ne_true)]
  show wpAny _ _ (field (.ref it) 1 >>= _) _ _ s
  refine wpAny_bind (wpAny_field ho hd (x := .int i 0) rfl ?_)
  show wpAny _ _ (seqItems? (.ref t) >>= _) _ _ s
  refine wpAny_bind (wpAny_seqItems hol hdl ?_)
  simp only [Int.toNat_natCast, hx]
  refine wpAny_bind (wpAny_rule (wpAny_bind (wpAny_setField ho hd (by simp) ?_)))
  show wpAny _ _ (newExc (.type "StopIteration") [] >>= _) _ _ _
  refine wpAny_bind ?_
  simp only [newExc, newTuple]
  refine wpAny_bind (wpAny_newObj_type ?_ (by size_fits))
  refine wpAny_bind (m := firstArgMember _ _) (wpAny_of_eq (a := Value.none) (by first | rfl | (simp only [firstArgMember]; rfl)) ?_)
  refine wpAny_newObj_type ?_ (by size_fits)
  simp only [raiseNew]
  refine wpAny_bind (wpAny_handled ?_)
  first | rw [show A.in1.handled = none from hh] | rw [hh]
  refine wpAny_bind (wpAny_pure (wpAny_throw ?_))
  refine hE _ _ ⟨_, _, _, rfl, Heap.get?_push_size _ rfl, rfl, rfl, ?_⟩ (((Heap.SameBut.update ..).extBut.push _).push _)
  first
    | rfl
    | (rw [Array.getElem?_append_left (by decide)]; rfl)
    | kernel_rfl
end
section
variable {X : Cx} {W : Wsh} {te : TE} {e : Expr}
theorem close_list : typeLookup (.type "list_iterator") "close" = pure none := by rw [typeLookup_type, builtinLookup_eq_fast]; kernel_rfl
/-- the items of the list that e gives are handed out: Pv by the item, how far it is, the heap -/
def tGyl (W : Wsh) (te : TE) : TGg := fun D g σ H => te σ H fun x H1 => ∃ a xs, x = .ref a ∧ H1 a = some (.lst xs) ∧ ∃ Pv : Nat → Gh → Hp → Prop, Pv 0 g H1 ∧
  (∀ j g H x, xs[j]? = some x → (∀ b o, H1 b = some o → H b = some o) → Pv j g H → g.1 < sizeLine ∧ W.Yw g x H ∧ ∀ g' H', g'.1 = g.1 + 1 → (∀ b o, H b = some o → H' b = some o) → W.Cw g' H' → Pv (j + 1) g' H') ∧
  ∀ g H, (∀ b o, H1 b = some o → H b = some o) → Pv xs.length g H → D.nx g σ H
abbrev yfCode (it : Addr) : Code := .builtin "proto.yield_from" ⟨[.ref it, .bool false, .none], []⟩
theorem seg_yl {ip : List (Addr × Obj)} {A : Around} {R : GenEnd} {fs : List Frame} {it a : Addr} {xs : List V} {σ : L2.St} {H1 : Hp} {Pv : Nat → Gh → Hp → Prop} (hp : ∀ p ∈ X.pn ++ ip, p.1 ∉ W.Ts) (hA : ∀ S ∈ W.Ts, Apart X S) (hpi : ∀ p ∈ X.pn ++ ip, p.1 ≠ it)
    (hex : it ∈ X.ex ∨ X.s_0.heap.objs.size ≤ it) (hL : it ≠ X.env.locals) (hcell : ∀ x c, X.env.cells.lookup x = some c → c ≠ it) (hTs : it ∉ W.Ts) (hfs : it ∉ X.fs) (h1 : H1 a = some (.lst xs))
    (ho : (A.over (yfCode it) fs).handled = none) (hsp : splitAtGen fs = none) (hgd : fs.any Frame.guarded = false)
    (step : ∀ j g H x, xs[j]? = some x → (∀ b o, H1 b = some o → H b = some o) → Pv j g H → g.1 < sizeLine ∧ W.Yw g x H ∧ ∀ g' H', g'.1 = g.1 + 1 → (∀ b o, H b = some o → H' b = some o) → W.Cw g' H' → Pv (j + 1) g' H')
    (hend : ∀ (n : Nat) (g : Gh) (s₀ s : Shared) (H : Hp), n + g.1 = sizeLine → g.2 = s₀.heap.get? W.D → GJ X W.Ts ip σ H s₀ s → (∀ b o, H1 b = some o → H b = some o) → Pv xs.length g H → Seg (model X.prog X.w) A R (GYs X W) n s₀ (yfCode it) (.pure (.done (.ret .none))) fs s) :
    ∀ (r j n : Nat) (g : Gh) (s₀ s : Shared) (H : Hp), j + r = xs.length → n + g.1 = sizeLine → g.2 = s₀.heap.get? W.D → GJ X W.Ts ip σ H s₀ s → s.heap.IsListIter it a j → H it = none → (∀ b o, H1 b = some o → H b = some o) → Pv j g H →
      Seg (model X.prog X.w) A R (GYs X W) n s₀ (yfCode it) ((model X.prog X.w).den (yfCode it)) fs s := by
  have turned : ∀ {s₀ s : Shared} {H : Hp} {h' : Heap}, GJ X W.Ts ip σ H s₀ s → H it = none → (∀ b o, b ≠ it → s.heap.get? b = some o → h'.get? b = some o) → GJ X W.Ts ip σ H s₀ { s with heap := h' } := fun {s₀ s H h'} hJ hn hk => by
    obtain ⟨os, e, e0, I⟩ := hJ
    refine ⟨os, e, e0, I.turned (t' := s.toks) (it := it) hk hn hL hex hcell fun p hpp => ?_⟩
    rcases List.mem_append.mp hpp with hq | hq
    · exact hpi p (List.mem_append_left _ hq)
    · rcases List.mem_append.mp hq with hq | hq
      · exact fun z => hTs (by rw [← e, ← z]; exact List.mem_map_of_mem hq)
      · exact hpi p (List.mem_append_right _ hq)
  intro r
  induction r with
  | zero =>
    intro j n g s₀ s H hj hn hg hJ hit hin hm hP
    obtain rfl : j = xs.length := by omega
    obtain ⟨_, its, m, rits, hl⟩ := hJ.inv.hok a _ (hm a _ h1)
    have hnone : its.toArray[xs.length]? = none := by
      have e2 : its[xs.length]? = none := List.getElem?_eq_none_iff.mpr (by have := rits.length; omega)
      simpa using e2
    rw [den_yf]
    unfold Builtin.«proto.yield_from»
    try dsimp only
    refine seg_bind (wpAny_pure ?_)
    try dsimp only
    refine seg_bind (wpAny_attempt (wpAny_holding ?_))
    rw [if_neg Bool.false_ne_true, if_pos (show (Value.none == Value.none) = true from rfl)]
    refine wpAny_bind (wpAny_rule (wpAny_bind ?_))
    refine special_list_end ho hit ⟨_, hl, rfl, m, rfl⟩ hnone fun e h' hS hk => ?_
    obtain ⟨ea, o, vs, rfl, hoa, hcls, hdat, h5⟩ := hS
    try dsimp only
    refine seg_bind (wpAny_endsTurn hoa hcls ?_)
    try dsimp only
    rw [if_pos rfl]
    first
      | refine seg_bind (wpAny_rule ?_)
      | (rw [if_neg Bool.false_ne_true]; refine seg_bind (wpAny_rule ?_))
      | (rw [if_neg Bool.false_ne_true]; refine seg_bind (wpAny_pure ?_); refine seg_bind (wpAny_rule ?_))
    refine seg_bind (wpAny_field hoa hdat h5 ?_)
    exact hend n g s₀ _ H hn hg (turned hJ hin fun b o hb eb => hk b o hb eb) hm hP
  | succ r ih =>
    intro j n g s₀ s H hj hn hg hJ hit hin hm hP
    obtain ⟨x, hx⟩ : ∃ x, xs[j]? = some x := ⟨xs[j]'(by omega), List.getElem?_eq_getElem _⟩
    obtain ⟨hlt, hY, hnx⟩ := step j g H x hx hm hP
    obtain ⟨n, rfl⟩ : ∃ m, n = m + 1 := ⟨n - 1, by omega⟩
    obtain ⟨_, its, m, rits, hl⟩ := hJ.inv.hok a _ (hm a _ h1)
    obtain ⟨u, hu, ru⟩ := rits.get hx
    rw [den_yf]
    unfold Builtin.«proto.yield_from»
    try dsimp only
    refine seg_bind (wpAny_pure ?_)
    try dsimp only
    refine seg_bind (wpAny_attempt (wpAny_holding ?_))
    rw [if_neg Bool.false_ne_true, if_pos (show (Value.none == Value.none) = true from rfl)]
    refine wpAny_bind (wpAny_rule (wpAny_bind ?_))
    refine special_list_item hit ⟨_, hl, rfl, m, rfl⟩ (x := u) (by simpa using hu) fun h' hit' hs => ?_
    have hJ' := turned hJ hin fun b o hb eb => hs.extBut b o hb eb
    obtain ⟨oi, hoi, hoc, hod⟩ := id hit'
    refine wpAny_pure ?_
    try dsimp only
    refine seg_bind (wpAny_typeOf (T := "list_iterator") ⟨oi, hoi, hoc⟩ ?_)
    try dsimp only
    first
      | (refine seg_bind (wpAny_of_eq close_list ?_); refine seg_bind (wpAny_pure ?_))
      | refine seg_bind (wpAny_bind (wpAny_of_eq close_list (wpAny_pure ?_)))
      | refine seg_bind (wpAny_of_eq close_list ?_)
    try dsimp only
    refine seg_bind (wpAny_sleptOver hoi hoc (by decide) ?_)
    refine seg_yield hsp rfl hgd ?_
    refine ⟨g, x, ip, σ, H, hn, hg, ru, hJ', hY, fun H' z q hC => ?_⟩
    have hz : z.heap.get? it = some oi := q.un.keep it oi hoi hin hfs hTs
    have hJz := hJ'.woken hp hA q
    show Seg _ _ _ _ n z _ (Builtin.Generator.sleptOver (.ref it) false >>= fun _ => _) fs z
    refine seg_bind (wpAny_sleptOver hz hoc (by decide) ?_)
    try dsimp only
    refine seg_bind (wpAny_pure ?_)
    exact seg_again (plainId_quiet plain_yf _) (ih (j + 1) n (g.1 + 1, z.heap.get? W.D) z z H' (by omega) (by show n + (g.1 + 1) = _; omega) rfl hJz ⟨oi, hz, hoc, hod⟩ (q.un.free it oi hoi hin hTs) (fun b o e => q.more b o (hm b o e)) (hnx _ H' rfl q.more hC))
theorem gt_yl {yp pos : Pos} (he : PE X e te) (hc : X.A.handled = none) (hi : interactive X.env = false := by rfl) : GT X W (.Expr (.YieldFrom e yp) pos) (tGyl W te) := by
  refine ⟨fun A ip R n g s₀ c fs K J gd lv s σ H D cc hn hg k hJ ht => ?_⟩
  rw [exec_Expr X.env _ pos hi rfl]
  show Seg _ _ _ _ n s₀ c (.at pos fun _ => ((eval e X.env >>= fun v => (standAt yp >>= fun _ => yieldFrom X.env v)) >>= fun x => dropValue (.YieldFrom e yp) pos x).wrap K J gd lv) fs s
  obtain ⟨os, eos, e0, I⟩ := hJ
  refine seg_at (segw_bind2 ?_)
  rw [cc.over]
  refine wpAny_mono (he.run _ s σ H _ I ht) (fun v s1 hv => ?_) fun x s' hx => k.exc n s₀ x s' hx
  obtain ⟨x, H1, I1, r1, a, xs, ex, ha, Pv, p0, step, fin⟩ := hv
  subst ex
  obtain rfl : v = Value.ref a := r1
  obtain ⟨_, its, m, rits, h1⟩ := I1.hok a _ ha
  have ht1 : s1.heap.IsList a its.toArray := ⟨_, h1, rfl, m, rfl⟩
  refine seg_at ?_
  show Seg _ _ _ _ n s₀ c ((yieldFrom X.env (.ref a)).wrap (fun b => (dropValue (.YieldFrom e yp) pos b).wrap K J gd lv) J gd lv) fs s1
  unfold yieldFrom
  refine seg_bind_wrap (wpAny_typeOf ht1.typeIs ?_)
  rw [if_neg (show ¬ ((Value.type "list" == Value.type "coroutine") = true) by decide)]
  refine seg_bind_wrap (wpAny_holding ?_)
  rw [cc.over]
  refine wpAny_pyIter_list ht1 ?_
  refine seg_call fun p => ?_
  have kp : ∀ b o, s1.heap.get? b = some o → (s1.heap.push { cls := .type "list_iterator", data := .fields #[.ref a, .int 0 0] }).get? b = some o := fun b o e => Heap.get?_push_of_some _ e
  have ksz : ∀ b o, s1.heap.get? b = some o → b ≠ s1.heap.objs.size := fun b o e => Nat.ne_of_lt (Heap.lt_size e)
  have J1 : GJ X W.Ts ip σ H1 s₀ { s1 with heap := s1.heap.push { cls := .type "list_iterator", data := .fields #[.ref a, .int 0 0] } } := ⟨os, eos, e0, I1.kept (t' := s1.toks) kp⟩
  refine seg_yl (it := s1.heap.objs.size) (xs := xs) (H1 := H1) (Pv := Pv) cc.pn cc.apart (fun p hp => ?_) (.inr I1.sz) (Nat.ne_of_gt I1.lt) (fun y c hy => ?_) (fun hm => ?_) (I1.nofs (Nat.le_refl _)) ha ?_ ?_ ?_ step (fun n' g' s₀' s' H' hn' hg' hG hm hP => ?_) xs.length 0 n g s₀ _ H1 (Nat.zero_add _) hn hg J1
    ⟨_, Heap.get?_push_size _ rfl, rfl, rfl⟩ (I1.hok.fresh (Nat.le_refl _)) (fun _ _ z => z) p0
  · rcases List.mem_append.mp hp with hp | hp
    · exact ksz p.1 _ (I1.pin p (List.mem_append_left _ hp)).1
    · exact ksz p.1 _ (I1.pin p (List.mem_append_right _ (List.mem_append_right _ hp))).1
  · obtain ⟨v, o, ho, _⟩ := I1.cell y c hy
    exact ksz c o ho
  · rw [← eos] at hm
    obtain ⟨p, hp, e⟩ := List.mem_map.mp hm
    exact ksz p.1 _ (I1.pin p (List.mem_append_right _ (List.mem_append_left _ hp))).1 e
  · show (A.over c fs).handled = none
    rw [cc.over]; exact hc
  · show (splitAtGen fs).map _ = none
    rw [cc.split]; rfl
  · show (gd false || fs.any Frame.guarded) = false
    rw [cc.gd, cc.guard]; rfl
  · exact seg_leaf (.ok (.ret .none)) (k.ok n' g' s₀' s' .next hn' hg' ⟨σ, H', hG, fin g' H' hm hP⟩)
end
end L2

/-! G4 -/
/-! ### a generator def's promise -/
namespace L2
open PySem PySem.Spec PyProof.Rows GenW

theorem execs_app (env : Env) (rest : List Stmt) : ∀ pre : List Stmt, execs (pre ++ rest) env = (execs pre env >>= fun f => match f with | .next => execs rest env | f => pure f)
  | [] => rfl
  | st :: r => by
    rw [List.cons_append, execs_cons, execs_cons, execs_app env rest r, bind_assoc]
    refine congrArg _ (funext fun f => ?_)
    cases f <;> rfl
theorem seg_app {M : Model} {A : Around} {R : GenEnd} {Y : Protocol} {n : Nat} {s₀ s : Shared} {c : Code} {fs : List Frame} {env : Env} {pre rest : List Stmt} {K : Flow → Sem PySem.Fin} {J : Value → Sem PySem.Fin} {gd : Bool → Bool} {lv : List Value → List Value}
    (h : wpAny M (A.over c fs) (execs pre env) (fun f s' => match f with | .next => Seg M A R Y n s₀ c ((execs rest env).wrap K J gd lv) fs s' | f => Seg M A R Y n s₀ c (K f) fs s') (fun x s' => Seg M A R Y n s₀ c (J x) fs s') s) :
    Seg M A R Y n s₀ c ((execs (pre ++ rest) env).wrap K J gd lv) fs s := by
  rw [execs_app]
  refine seg_bind_wrap (wpAny_mono h (fun f s' h' => ?_) fun _ _ x => x)
  cases f <;> exact h'

/-- arguments, heap, what is handed over at a waking, what is wanted of an item, of the end, of an exception -/
abbrev SpGs := List V → Hp → (Gh → Hp → Prop) → (Gh → V → Hp → Prop) → (Gh → Hp → Prop) → XK → Prop
section
variable (P : Program) (w : World) (outer : List Env) (H : Hp) (s : Shared) (a : Addr) (gi : Nat) (W : Wsh)
def GsEnd (s2 : Shared) (Q : Gh → Hp → Prop) (E : XK) : GenEnd := fun n s₀ r s1 =>
  ((r = .ok (.ret .none) ∨ r = .ok .next) ∧ ∃ g H', n + g.1 = sizeLine ∧ g.2 = s₀.heap.get? W.D ∧ s1.os = s.os ∧ AllBare s1.gens ∧ Un (frs outer) [] H H' s.heap s1.heap ∧ HOk P w H' s1.heap ∧ (∀ b ∈ W.Ts, H' b = none ∧ s1.heap.get? b = s₀.heap.get? b) ∧ Q g H') ∨
  ∃ e, r = .error e ∧ CX P w outer H s (fun cls d H' => E cls d H' ∧ ∀ b ∈ W.Ts, H' b = none) e s1 ∧ s1.heap.IsGen a gi ∧ ∀ b ∈ W.Ts, s1.heap.get? b = s2.heap.get? b
def GsItem : Protocol := fun n s₀ v s1 kap =>
  ∃ g x H', n + 1 + g.1 = sizeLine ∧ g.2 = s₀.heap.get? W.D ∧ RelV x v ∧ s1.os = s.os ∧ AllBare s1.gens ∧ s1.heap.NoLimit ∧ s1.heap.IsGen a gi ∧ (H' a = none ∧ a ∉ frs outer) ∧ Un (frs outer) [] H H' s.heap s1.heap ∧ HOk P w H' s1.heap ∧ (∀ b ∈ W.Ts, H' b = none ∧ s1.heap.get? b = s₀.heap.get? b) ∧ W.Yw g x H' ∧
    ∀ H'' z, Slp P w (frs outer) W.Ts H' H'' s1 z → W.Cw (g.1 + 1, z.heap.get? W.D) H'' → kap (.send .none) z
end
def GsMade (P : Program) (w : World) (k : Nat) (outer : List Env) (H : Hp) (s : Shared) (Cw : Gh → Hp → Prop) (Yw : Gh → V → Hp → Prop) (Q : Gh → Hp → Prop) (E : XK) (u : Value) (s' : Shared) : Prop :=
  ∃ (a : Addr) (gi : Nat) (c : Code), u = .ref a ∧ s.heap.objs.size ≤ a ∧ a < s'.heap.objs.size ∧ s'.heap.IsGen a gi ∧ s'.gens[gi]? = some (.fresh c) ∧ s'.os = s.os ∧ AllBare s'.gens ∧ s'.heap.NoLimit ∧ (∀ b o, s.heap.get? b = some o → s'.heap.get? b = some o) ∧
    ∀ (A : Around) (D : Addr) (Ts : List Addr) (s2 : Shared), Room k A → A.frames = some outer → (∀ S ∈ Ts, s'.heap.objs.size ≤ S ∧ ∃ o, s2.heap.get? S = some o ∧ ∀ v, o.data ≠ .cell v) → (∀ b o, s'.heap.get? b = some o → s2.heap.get? b = some o) → s2.os = s.os → AllBare s2.gens →
      Cw (0, s2.heap.get? D) H → Seg (model P w) A (GsEnd P w outer H s a gi ⟨D, Ts, Cw, Yw⟩ s2 Q E) (GsItem P w outer H s a gi ⟨D, Ts, Cw, Yw⟩) sizeLine s2 c ((model P w).den c) [] s2
structure GFns (P : Program) (w : World) (K : PySem.W.Frag) (mg : Str → Option Value) (base : Heap) (k : Nat) (f : Addr) (fd : FuncData) (ps : List Str) (sp : SpGs) : Prop where
  len : ∀ vs H Cw Yw Q E, sp vs H Cw Yw Q E → vs.length = ps.length
  run : ∀ (A : Around) (outer : List Env) (s : Shared) (H : Hp) (args : Args) (us : List Value) (vs : List V) (Cw : Gh → Hp → Prop) (Yw : Gh → V → Hp → Prop) (Q : Gh → Hp → Prop) (E : XK), Room k A → Env0 P w K mg base A outer s H → BindsTo s fd args (ps.zip us) → Vals vs us → sp vs H Cw Yw Q E →
    codeAny (model P w) A (.call (.ref f) args) (fun r s' => match r with | .ok (.ret u) => GsMade P w k outer H s Cw Yw Q E u s' | _ => False) s
abbrev noX : XK := fun _ _ _ => False
/-- what is pinned is untracked where an exception leaves -/
abbrev exE (E : XK) (pn : List (Addr × Obj)) : XK := fun cls d H' => E cls d H' ∧ ∀ p ∈ pn, H' p.1 = none
section
variable {P : Program} {w : World} {K : PySem.W.Frag} {mg : Str → Option Value} {base : Heap} {N : List Str} {qual : Str} {scope : Scope} {f : Addr} {cd : Value} {A : Around} {outer : List Env} {s s1 : Shared} {H H' : Hp} {E E' : XK} {pn pn' pins pins' : List (Addr × Obj)} {σ : L2.St}
/-- the context's wish and its pins changed -/
theorem reG (I : Inv (gcxOf P w K mg base N qual scope f cd A outer s H E pn) pins σ H' s1)
    (h : ∀ p ∈ pn' ++ pins', s1.heap.get? p.1 = some p.2 ∧ H' p.1 = none ∧ p.1 ≠ (envOfC qual scope s.heap.objs.size f cd).locals ∧ p.1 ∉ frs outer ∧ ∀ v, p.2.data ≠ .cell v) :
    Inv (gcxOf P w K mg base N qual scope f cd A outer s H E' pn') pins' σ H' s1 :=
  ⟨⟨I.ok.mod, I.ok.kind, I.ok.glob, I.ok.blt, I.ok.above, I.ok.inj, I.ok.has, I.ok.cab, I.ok.hd, I.ok.frames, I.ok.stk, I.ok.exf, I.ok.bs, I.ok.bsz, I.ok.noex, I.ok.exfs, I.ok.funs, I.ok.frf⟩, I.os, I.bare, I.base, I.loc, I.cell, I.free, I.freeC, h, I.hok, I.len⟩
end
theorem takesG {P : Program} {w : World} {K : PySem.W.Frag} {mg : Str → Option Value} {base : Heap} {N : List Str} {qual : Str} {scope : Scope} {f : Addr} {cd : Value} {A : Around} {outer : List Env} {s : Shared} {H : Hp} {E : XK} {pn : List (Addr × Obj)} :
    Takes (gcxOf P w K mg base N qual scope f cd A outer s H (exE E pn) pn) (fun cls d _ H' => E cls d H') := fun u s' x => by
  refine takes_gcx u s' ?_
  obtain ⟨a, B, sI, pins, σ, H1, cls, d, e, I, nb, up, sky, na, os, ag, q⟩ := x
  exact ⟨a, B, sI, pins, σ, H1, cls, d, e, I, nb, up, sky, na, os, ag, q, fun p hp => (I.pin p (List.mem_append_left _ hp)).2.1⟩
/-- THE RULE: pre hands out nothing and may raise; rest hands out and raises nothing -/
theorem gfns_of {P : Program} {w : World} {K : PySem.W.Frag} {mg : Str → Option Value} {base : Heap} {k : Nat} {f : Addr} {name qual : Str} {params : Arguments} {body : List Stmt} {scope : Scope} {dV kV doc pm cdv ct oc : Value} {an od : Option Addr}
    {osl : Array (Option Value)} {N ps : List Str} {sp : SpGs} (pre rest : List Stmt) (hbd : body = pre ++ rest) (lk : K.lookup f = some ⟨oc, od, .func (PySem.W.fnOf name qual params body scope dV kV doc pm an cdv ct), osl⟩) (hcd : PySem.W.codeIn K cdv qual = true) (S : GScope N ps scope)
    (len : ∀ vs H Cw Yw Q E, sp vs H Cw Yw Q E → vs.length = ps.length)
    (hbody : ∀ (A : Around) (outer : List Env) (s : Shared) (H : Hp) (vs : List V) (Cw : Gh → Hp → Prop) (Yw : Gh → V → Hp → Prop) (Q : Gh → Hp → Prop) (E : XK), Room k (A.deeper (envOfC qual scope s.heap.objs.size f cdv)) → sp vs H Cw Yw Q E →
      ∃ (t : TS) (u : Addr → List Addr → TGg), (∀ pn, PSs (gcxOf P w K mg base N qual scope f cdv A outer s H (exE E pn) pn) pre t) ∧ (∀ pn D Ts, GTs (gcxOf P w K mg base N qual scope f cdv A outer s H noX pn) ⟨D, Ts, Cw, Yw⟩ rest (u D Ts)) ∧
        ∀ D Ts g, g.1 = 0 → Cw g H → t { nx := fun σ' H' => u D Ts { nx := fun g' _ H'' => Q g' H'', rt := fun g' v H'' => v = .non ∧ Q g' H'' } g σ' H', rt := fun v H' => v = .non ∧ Q g H' } (start N vs) H) :
    GFns P w K mg base (k + 1) f (PySem.W.fnOf name qual params body scope dV kV doc pm an cdv ct) ps sp := by
  subst hbd
  refine ⟨len, fun A outer s H args us vs Cw Yw Q E hr e0 hb r hsp => ?_⟩
  have hl := len _ _ _ _ _ _ hsp
  have KX : K.In s.heap := e0.mod.kin.keeps fun b o e => (e0.bs b o e).1
  have lim : s.heap.NoLimit := e0.mod.nolimit.keeps fun b o e => (e0.bs b o e).1
  have hkind : ∀ y ∈ ps.zip us, scope.names.lookup y.1 = some .local ∨ (scope.names.lookup y.1 = some .cell ∧ ((cellsFrom (s.heap.objs.size + 1) scope.names []).lookup y.1).isSome = true) := fun ⟨n, v⟩ hy => by
    rcases S.par n (List.of_mem_zip hy).1 with q | q
    · exact .inl q
    · exact .inr ⟨q, PySem.W.cellsFrom_some _ _ _ (.inl q)⟩
  refine codeAny_call_generator hr.depth (KX _ _ lk) rfl S.co S.gen rfl (PySem.W.codeRec_of KX hcd) (hb _ _ _ _ ?_)
  refine wpAny_newFunctionEnv_cells S.kind hkind fun env he s1 x => ?_
  subst he
  have lim1 : s1.heap.NoLimit := lim.keeps x.toInCall.keep
  refine ⟨lim1, ?_⟩
  obtain ⟨h1, tk, es1, hk1⟩ := x.done
  have os1 : s1.os = s.os := by rw [es1]
  have gen1 : s1.gens = s.gens := by rw [es1]
  have lt1 : s.heap.objs.size < s1.heap.objs.size := x.toInCall.ns.lt
  have sz1 : s.heap.objs.size ≤ s1.heap.objs.size := Nat.le_of_lt lt1
  have kp1 : ∀ b o, s.heap.get? b = some o → s1.heap.get? b = some o := x.toInCall.keep
  have main : ∀ (go : Obj) (nm qn : Value) (tk2 : Nat), go.cls = .type "generator" → go.data = .fields #[.int s1.gens.size 0, nm, qn] → go.slots = #[] → (∀ h : Heap, (h.push go).get? h.objs.size = some go) →
      GsMade P w (k + 1) outer H s Cw Yw Q E (.ref s1.heap.objs.size) { s1 with gens := s1.gens.push (.fresh (.func (pre ++ rest) (envOfC qual scope s.heap.objs.size f cdv))), toks := tk2, heap := s1.heap.push go } := by
    intro go nm qn tk2 hgc hgd0 hgs hgp
    have hgen : ∀ h : Heap, h.get? s1.heap.objs.size = some go → h.IsGen s1.heap.objs.size s1.gens.size := fun h e => ⟨go, nm, qn, e, hgc, hgd0, hgs⟩
    have hpushed : (s1.heap.push go).get? s1.heap.objs.size = some go := hgp _
    refine ⟨s1.heap.objs.size, s1.gens.size, _, rfl, sz1, ?_, hgen _ hpushed, Array.getElem?_push_size .., os1, ?_, lim1.keeps fun b o e => Heap.get?_push_of_some _ e, fun b o e => Heap.get?_push_of_some _ (kp1 b o e), ?_⟩
    · show _ < (s1.heap.push _).objs.size
      rw [Heap.size_push]; exact Nat.lt_succ_self _
    · exact AllBare.push (by rw [gen1]; exact e0.bare) rfl
    intro Aw Dx Ts s2 hrw hfr hTs hk2 hos hba hC0
    have hTs' : ∀ S ∈ Ts, s1.heap.objs.size < S ∧ ∃ o, s2.heap.get? S = some o ∧ ∀ v, o.data ≠ .cell v := fun S hS => by
      obtain ⟨q1, q2⟩ := hTs S hS
      have q1 : (s1.heap.push go).objs.size ≤ S := q1
      rw [Heap.size_push] at q1
      exact ⟨q1, q2⟩
    have e0w : Env0 P w K mg base Aw outer s H := ⟨hfr, e0.mod, e0.bs, e0.bsz, e0.funs, e0.frf, e0.hok, e0.bare⟩
    obtain ⟨t, u, ht, hu, hq⟩ := hbody Aw outer s H vs Cw Yw Q E (hrw.deeper _) hsp
    have hq := hq Dx Ts (0, s2.heap.get? Dx) rfl hC0
    have I1 : Inv (gcxOf P w K mg base N qual scope f cdv Aw outer s H E []) [] (start N vs) H s1 := inv_startG S hrw.hd e0w hl r x
    have kp2 : ∀ b o, s1.heap.get? b = some o → s2.heap.get? b = some o := fun b o e => hk2 b o (Heap.get?_push_of_some _ e)
    have I2 : Inv (gcxOf P w K mg base N qual scope f cdv Aw outer s H E []) [] (start N vs) H s2 :=
      I1.call' (ch := []) (hos.trans os1.symm) (Un.kept kp2) (I1.hok.kept kp2) hba fun b z => by simp at z
    have hea : s2.heap.get? s1.heap.objs.size = some go := hk2 s1.heap.objs.size go hpushed
    have hgd : ∀ v, go.data ≠ .cell v := fun v q => by rw [hgd0] at q; cases q
    have young : ∀ b, s1.heap.objs.size ≤ b → H b = none ∧ b ≠ s.heap.objs.size ∧ b ∉ frs outer ∧ s.heap.objs.size ≤ b ∧ ∀ y c, (cellsFrom (s.heap.objs.size + 1) scope.names []).lookup y = some c → c ≠ b := fun b hb => by
      refine ⟨I1.hok.fresh hb, Nat.ne_of_gt (Nat.lt_of_lt_of_le lt1 hb), I1.nofs hb, Nat.le_trans sz1 hb, fun y c e z => ?_⟩
      obtain ⟨v, ob, ho, _⟩ := I1.cell y c e
      have := Heap.lt_size ho
      rw [z] at this
      exact absurd (Nat.lt_of_lt_of_le this hb) (Nat.lt_irrefl _)
    have pinA : ∀ p ∈ [(s1.heap.objs.size, go)] ++ pinsAt Ts s2.heap, s2.heap.get? p.1 = some p.2 ∧ H p.1 = none ∧ p.1 ≠ (envOfC qual scope s.heap.objs.size f cdv).locals ∧ p.1 ∉ frs outer ∧ ∀ v, p.2.data ≠ .cell v := fun p hp => by
      rcases List.mem_append.mp hp with z | z
      · rw [List.mem_singleton.mp z]
        obtain ⟨y1, y2, y3, _, _⟩ := young s1.heap.objs.size (Nat.le_refl _)
        exact ⟨hea, y1, y2, y3, hgd⟩
      · obtain ⟨hb, e⟩ := of_pinsAt z
        obtain ⟨q1, o, q2, q3⟩ := hTs' p.1 hb
        rw [e] at q2; cases q2
        obtain ⟨y1, y2, y3, _, _⟩ := young p.1 (Nat.le_of_lt q1)
        exact ⟨e, y1, y2, y3, q3⟩
    have IA : Inv (gcxOf P w K mg base N qual scope f cdv Aw outer s H (exE E ((s1.heap.objs.size, go) :: pinsAt Ts s2.heap)) ((s1.heap.objs.size, go) :: pinsAt Ts s2.heap)) (pinsAt Ts s2.heap) (start N vs) H s2 := reG I2 fun p hp => by
      rcases List.mem_append.mp hp with hp | hp
      · exact pinA p hp
      · exact pinA p (List.mem_append_right _ hp)
    have eTs : (pinsAt Ts s2.heap).map Prod.fst = Ts := pinsAt_fst fun b hb => let ⟨_, o, e, _⟩ := hTs' b hb; ⟨o, e⟩
    have fTs : ∀ p ∈ pinsAt Ts s2.heap, s2.heap.get? p.1 = some p.2 := fun p hp => (of_pinsAt hp).2
    have hAp : ∀ S ∈ Ts, Apart (gcxOf P w K mg base N qual scope f cdv Aw outer s H noX [(s1.heap.objs.size, go)]) S := fun S hS => by
      obtain ⟨_, y2, _, y4, y5⟩ := young S (Nat.le_of_lt (hTs' S hS).1)
      exact ⟨y4, y2, y5⟩
    have naTs : s1.heap.objs.size ∉ Ts := fun z => Nat.lt_irrefl _ (hTs' _ z).1
    have toB : ∀ {σ' : L2.St} {H' : Hp} {s3 : Shared}, Inv (gcxOf P w K mg base N qual scope f cdv Aw outer s H (exE E ((s1.heap.objs.size, go) :: pinsAt Ts s2.heap)) ((s1.heap.objs.size, go) :: pinsAt Ts s2.heap)) (pinsAt Ts s2.heap) σ' H' s3 →
        GJ (gcxOf P w K mg base N qual scope f cdv Aw outer s H noX [(s1.heap.objs.size, go)]) Ts [] σ' H' s2 s3 := fun {σ' H' s3} I => by
      refine ⟨pinsAt Ts s2.heap, eTs, fTs, reG I fun p hp => ?_⟩
      rcases List.mem_append.mp hp with hp | hp
      · rw [List.mem_singleton.mp hp]
        exact I.pin (s1.heap.objs.size, go) (List.mem_append_left _ List.mem_cons_self)
      · rw [List.append_nil] at hp
        exact I.pin p (List.mem_append_right _ hp)
    have pinned : ∀ {ip : List (Addr × Obj)} {s₀ s3 : Shared} {σ' : L2.St} {H' : Hp}, GJ (gcxOf P w K mg base N qual scope f cdv Aw outer s H noX [(s1.heap.objs.size, go)]) Ts ip σ' H' s₀ s3 → s3.heap.IsGen s1.heap.objs.size s1.gens.size ∧ (H' s1.heap.objs.size = none ∧ s1.heap.objs.size ∉ frs outer) ∧ ∀ b ∈ Ts, H' b = none ∧ s3.heap.get? b = s₀.heap.get? b := fun {ip s₀ s3 σ' H'} hJ => by
      have hat := hJ.at
      obtain ⟨os, e, e0, I⟩ := hJ
      have pa := I.pin (s1.heap.objs.size, go) (List.mem_append_left _ (List.mem_singleton.mpr rfl))
      refine ⟨hgen _ pa.1, ⟨pa.2.1, pa.2.2.2.1⟩, fun b hb => ?_⟩
      obtain ⟨z1, _, _, o, z2, z3⟩ := hat b hb
      exact ⟨z1, z3.trans z2.symm⟩
    refine seg_func ?_
    refine seg_imp (R := fun n s₀ r s3 => match r with
        | .ok (.ret u) => ∃ g v ip σ' H', n + g.1 = sizeLine ∧ g.2 = s₀.heap.get? Dx ∧ GJ (gcxOf P w K mg base N qual scope f cdv Aw outer s H noX [(s1.heap.objs.size, go)]) Ts ip σ' H' s₀ s3 ∧ RelV v u ∧ v = .non ∧ Q g H'
        | .ok _ => False
        | .error e => CX P w outer H s (fun cls d H' => E cls d H' ∧ ∀ b ∈ Ts, H' b = none) e s3 ∧ s3.heap.IsGen s1.heap.objs.size s1.gens.size ∧ ∀ b ∈ Ts, s3.heap.get? b = s2.heap.get? b)
      (Y := GYs (gcxOf P w K mg base N qual scope f cdv Aw outer s H noX [(s1.heap.objs.size, go)]) ⟨Dx, Ts, Cw, Yw⟩) (fun n s₀ r s3 hR => ?_) (fun n s₀ v s3 kap kap' hkk hY => ?_) sizeLine ?_
    · cases r with
      | error e => exact .inr ⟨e, rfl, hR⟩
      | ok fl =>
        cases fl with
        | next => exact False.elim hR
        | brk => exact False.elim hR
        | cont => exact False.elim hR
        | ret u =>
          obtain ⟨g, v, ip, σ', H', hn, hg, hJ, rv, ev, hQ⟩ := hR
          subst ev
          have eu : u = Value.none := rv
          subst eu
          have J := hJ.inv
          exact .inl ⟨.inl rfl, g, H', hn, hg, J.os, J.bare, J.base, J.hok, (pinned hJ).2.2, hQ⟩
    · obtain ⟨g, xx, ip, σ', H', hn, hg, rv, hJ, hY, h3⟩ := hY
      have J := hJ.inv
      obtain ⟨p1, pa, p2⟩ := pinned hJ
      exact ⟨g, xx, H', hn, hg, rv, J.os, J.bare, J.nolimit, p1, pa, J.base, J.hok, p2, hY, fun H'' z q hC => hkk _ _ (h3 H'' z q hC)⟩
    · refine seg_app ?_
      rw [over_func]
      refine wpAny_mono ((ht ((s1.heap.objs.size, go) :: pinsAt Ts s2.heap)).run (pinsAt Ts s2.heap) s2 (start N vs) H _ IA hq) (fun fl s3 hfl => ?_) fun e s3 hx => ?_
      · cases fl with
        | next =>
          obtain ⟨σ3, H3, I3, q3⟩ := hfl
          refine (hu [(s1.heap.objs.size, go)] Dx Ts).run Aw [] _ sizeLine (0, s2.heap.get? Dx) s2 _ [] _ _ id id s3 σ3 H3 _ ⟨fun p hp => ?_, hAp, over_func, rfl, rfl, rfl⟩ (Nat.add_zero _) rfl ⟨fun n g s₀ s4 fl4 hn hg hs => ?_, fun n s₀ e s4 hx => ?_⟩ (toB I3) q3
          · have hp : p ∈ [(s1.heap.objs.size, go)] ++ [] := hp
            rw [List.append_nil] at hp
            rw [List.mem_singleton.mp hp]
            exact naTs
          · cases fl4 with
            | next =>
              obtain ⟨σ4, H4, J4, q4⟩ := hs
              exact seg_end (.ok (.ret .none)) ⟨g, .non, [], σ4, H4, hn, hg, J4, rfl, rfl, q4⟩
            | brk => obtain ⟨_, _, _, q⟩ := hs; exact False.elim q
            | cont => obtain ⟨_, _, _, q⟩ := hs; exact False.elim q
            | ret u =>
              obtain ⟨v, σ4, H4, J4, rv, ev, q4⟩ := hs
              exact seg_end (.ok (.ret u)) ⟨g, v, [], σ4, H4, hn, hg, J4, rv, ev, q4⟩
          · refine seg_wrap ?_
            rw [over_func]
            refine wpAny_mono (show wpAny (model P w) (Aw.deeper (envOfC qual scope s.heap.objs.size f cdv)) (leaving (envOfC qual scope s.heap.objs.size f cdv) e) (fun _ s'' => CX P w outer H s noX e s'' ∧ ∀ p ∈ [(s1.heap.objs.size, go)], s''.heap.get? p.1 = some p.2) (fun _ _ => False) s4 from hx) (fun _ s'' q => ?_) fun _ s'' q => q.elim
            obtain ⟨⟨_, _, _, _, _, _, _, _, _, _, _, _, q⟩, _⟩ := q
            exact q.elim
        | brk => obtain ⟨_, _, _, q⟩ := hfl; exact False.elim q
        | cont => obtain ⟨_, _, _, q⟩ := hfl; exact False.elim q
        | ret u =>
          obtain ⟨v, σ4, H4, I4, rv, ev, q4⟩ := hfl
          exact seg_end (.ok (.ret u)) ⟨(0, s2.heap.get? Dx), v, [], σ4, H4, Nat.add_zero _, rfl, toB I4, rv, ev, q4⟩
      · refine seg_wrap ?_
        rw [over_func]
        refine wpAny_mono (show wpAny (model P w) (Aw.deeper (envOfC qual scope s.heap.objs.size f cdv)) (leaving (envOfC qual scope s.heap.objs.size f cdv) e) (fun _ s'' => CX P w outer H s (exE E ((s1.heap.objs.size, go) :: pinsAt Ts s2.heap)) e s'' ∧ ∀ p ∈ (s1.heap.objs.size, go) :: pinsAt Ts s2.heap, s''.heap.get? p.1 = some p.2) (fun _ _ => False) s3 from hx) (fun _ s'' q => ?_) fun _ s'' q => q.elim
        have q1 : CX P w outer H s (fun cls d H' => E cls d H' ∧ ∀ b ∈ Ts, H' b = none) e s'' := by
          obtain ⟨ea, B, H', cls, d, z1, z2, z3, z4, z5, z6, z7, z8, z9⟩ := q.1
          refine ⟨ea, B, H', cls, d, z1, z2, z3, z4, z5, z6, z7, z8, fun b hb => ?_⟩
          obtain ⟨_, o, e1, _⟩ := hTs' b hb
          exact z9 (b, o) (List.mem_cons_of_mem _ (mem_pinsAt hb e1))
        refine seg_end (.error e) ⟨q1, hgen _ (q.2 (s1.heap.objs.size, go) List.mem_cons_self), fun b hb => ?_⟩
        obtain ⟨_, o, e1, _⟩ := hTs' b hb
        rw [e1]
        exact q.2 (b, o) (List.mem_cons_of_mem _ (mem_pinsAt hb e1))
  exact main _ _ _ _ rfl rfl rfl fun h => Heap.get?_push_size _ rfl
end L2

/-! G5 -/
/-! ### a comprehension over a generator -/
namespace L2
open PySem PySem.Spec PyProof.Rows GenW

theorem ObjOk.there {P : Program} {w : World} {H : Hp} {h : Heap} {a : Addr} {o : HO} (x : ObjOk P w H h a o) : ∃ ob, h.get? a = some ob := by
  cases o with
  | lst xs => obtain ⟨_, _, _, _, e⟩ := x; exact ⟨_, e⟩
  | tup xs => obtain ⟨_, _, _, ob, e, _⟩ := x; exact ⟨ob, e⟩
  | dK kvs => obtain ⟨_, _, _, _, o, _, _, e, _⟩ := x; exact ⟨o, e⟩
  | dT kvs => obtain ⟨_, _, _, _, o, _, _, e, _⟩ := x; exact ⟨o, e⟩
  | set S n => obtain ⟨o, _, _, _, e, _⟩ := x; exact ⟨o, e⟩
  | ins C dx fs => obtain ⟨_, _, _, e, _⟩ := x; exact ⟨_, e⟩
  | own y => exact x
  | xd fs => obtain ⟨_, ⟨o, _, _, e, _⟩, _⟩ := x; exact ⟨o, e⟩
  | rng lo hi => obtain ⟨_, _, _, e⟩ := x; exact ⟨_, e⟩
  | frz ob u => exact ⟨ob, x.1⟩
  | tbl ps => exact ⟨_, (show h.get? a = some _ from x)⟩
  | met f y => exact ⟨_, (show h.get? a = some _ from x)⟩
  | ext φ => exact x.2.1

section
variable {X : Cx} {pins : List (Addr × Obj)} {σ : St} {H H' : Hp} {s : Shared}
/-- a local name is stored; the state as it is then -/
theorem store_g {M : Model} {A : Around} {E : Value → Shared → Prop} {i : Nat} {x : Str} {v : V} {u : Value} {Q : Unit → Shared → Prop} (I : Inv X pins σ H s) (hN : X.N.Nodup) (hi : X.N[i]? = some x) (hk : X.env.scope.names.lookup x = some .local) (r : RelV v u)
    (h : ∀ h' t', Inv X pins (σ.set i (some v)) H { s with heap := h', toks := t' } → Q () { s with heap := h', toks := t' }) : wpAny M A (storeName X.env x u) Q E s := by
  obtain ⟨m, hn, hl⟩ := id I.loc
  have hcls : (X.env.scope.kind == .class || (X.env.scope.kind == .module && X.env.locals != X.env.globals)) = false := by rw [I.ok.kind]; rfl
  have hiσ : i < σ.length := by rw [I.len]; exact (List.getElem?_eq_some_iff.mp hi).1
  refine wpAny_storeName_local hk hn (fun h' hn' hs => h h' _ ?_) hcls
  have nL : ∀ b o, X.s_0.heap.get? b = some o → b ≠ X.env.locals := fun b o e => Nat.ne_of_lt (Nat.lt_of_lt_of_le (Heap.lt_size e) I.ok.above)
  refine ⟨I.ok, I.os, I.bare, ⟨fun b o e n hb hx => (hs.2 b (nL b o e)).trans (I.base.keep b o e n hb hx), fun b o e n hb hx => ?_, I.base.free, fun b o e hx => ?_, I.base.tups, I.base.frzs, I.base.tbls⟩, ⟨_, hn', fun j y v' e1 e2 e3 => ?_⟩, fun y c e => ?_, I.free, I.freeC, fun p hp => ?_, fun b ob e => ?_, by simpa using I.len⟩
  · obtain ⟨sl, e1⟩ := I.base.slot b o e n hb hx
    exact ⟨sl, (hs.2 b (nL b o e)).trans e1⟩
  · obtain ⟨o', e1⟩ := I.base.there b o e hx
    exact ⟨o', (hs.2 b (nL b o e)).trans e1⟩
  · by_cases hj : j = i
    · subst hj
      rw [hi] at e1; cases e1
      rw [List.getElem?_set_self hiσ] at e2
      cases e2
      exact ⟨u, r, .inl ⟨hk, by simp⟩⟩
    · rw [List.getElem?_set_ne (Ne.symm hj)] at e2
      obtain ⟨u', r', q⟩ := hl j y v' e1 e2 e3
      refine ⟨u', r', ?_⟩
      rcases q with ⟨k, e⟩ | ⟨k, c, e, z⟩
      · refine .inl ⟨k, ?_⟩
        have ny : y ≠ x := fun e => hj (nodup_ix hN e1 (e ▸ hi))
        simp [ny, e]
      · exact .inr ⟨k, c, e, z.sameBut hs (I.cne y c e)⟩
  · obtain ⟨w', z⟩ := I.cell y c e
    exact ⟨w', z.sameBut hs (I.cne y c e)⟩
  · obtain ⟨e, n, ne, nf, d⟩ := I.pin p hp
    exact ⟨(hs.2 p.1 ne).trans e, n, ne, nf, d⟩
  · refine (I.hok b ob e).stay (fun c w' hc q => (hs.2 c ?_).trans q) (fun _ q => q) fun _ _ q => q
    rintro rfl
    have nf := I.free
    rcases hc with z | z
    · rw [← z, nf] at e; cases e
    · rw [nf] at z; cases z
/-- appended; the state as it is then -/
theorem app_g {E : Value → Shared → Prop} {D : Addr} {xs : List V} {y : V} {v : Value} {Q : Value → Shared → Prop} (I : Inv X pins σ H s) (hD : H D = some (.lst xs)) (hz : xs.length < sizeLine) (r : RelV y v)
    (h : ∀ h', Inv X pins σ (upd H D (.lst (xs ++ [y]))) { s with heap := h' } → Q .none { s with heap := h' }) : wpAny (model X.prog X.w) X.A (call (.builtin "list.append") [.ref D, v]) Q E s := by
  obtain ⟨hz', its, n, ri, e⟩ := I.hok D _ hD
  have hl := ri.length
  refine append_at (hsz := by rw [List.size_toArray]; omega) e fun h' sb ho' => h h' ?_
  refine I.write (t' := s.toks) (by rw [hD]; trivial) (.inl rfl) (fun b u hb q => (sb.2 b hb).trans q) ⟨_, ho'⟩ ⟨by rw [List.length_append]; exact hz, its ++ [v], n + 1, ri.append (.cons r .nil), ?_⟩
  rw [ho']
  simp

/-- the block's context over an earlier state -/
theorem blk_base {scope : Scope} {ce : Env} {σ' : St} {H1 H3 H4 : Hp} {sc s3 s4 : Shared} (I : Inv X pins σ H1 sc) (hsz : sc.heap.objs.size ≤ s3.heap.objs.size) (J : Inv (X.blk s3 H3 scope ce []) [] σ' H4 s4) (os : s4.os = sc.os) (un : Un (frs X.stack) [] H1 H4 sc.heap s4.heap) :
    Inv (X.blk sc H1 scope ce []) [] σ' H4 s4 :=
  ⟨⟨J.ok.mod, J.ok.kind, J.ok.glob, J.ok.blt, Nat.le_trans hsz J.ok.above, J.ok.inj, J.ok.has, fun x c h1 h2 => Nat.le_trans hsz (J.ok.cab x c h1 h2), J.ok.hd, J.ok.frames, J.ok.stk, (fun b hb => nomatch hb), I.bs, Nat.le_trans I.ok.bsz I.sz, (fun _ _ _ hb => nomatch hb), (fun b hb => nomatch hb), I.stack, I.stkFree⟩,
    os, J.bare, un, J.loc, J.cell, J.free, J.freeC, J.pin, J.hok, J.len⟩
/-- the block's state anew: its names' object is as it was, its captured cells stand in the earlier state -/
theorem blk_again {scope : Scope} {ce : Env} {σ' : St} {H1 Hz Hc : Hp} {sc z s' : Shared} (J : Inv (X.blk sc H1 scope ce []) [] σ' Hz z) (hcl : ∀ x c, ce.cells.lookup x = some c → H1 c = none ∧ ∃ o, sc.heap.get? c = some o)
    (os : s'.os = sc.os) (bare : AllBare s'.gens) (un : Un (frs X.stack) [] H1 Hc sc.heap s'.heap) (hok : HOk X.prog X.w Hc s'.heap) (hC : ∀ o, z.heap.get? ce.locals = some o → s'.heap.get? ce.locals = some o) (hn : Hc ce.locals = none) :
    Inv (X.blk sc H1 scope ce []) [] σ' Hc s' := by
  have cell : ∀ x c, ce.cells.lookup x = some c → ∀ v, z.heap.IsCell c v → s'.heap.IsCell c v := fun x c e v ⟨o, ho, hd⟩ => by
    obtain ⟨n1, o1, e1⟩ := hcl x c e
    obtain ⟨sl, e2⟩ := J.base.any (b := c) e1 n1 (fun z => nomatch z)
    obtain ⟨sl', e3⟩ := un.any (b := c) e1 n1 (fun z => nomatch z)
    have e2 : z.heap.get? c = some { o1 with slots := sl } := e2
    rw [e2] at ho; cases ho
    exact ⟨_, e3, hd⟩
  refine ⟨J.ok, os, bare, un, ?_, fun x c e => ?_, hn, fun x c e => ?_, fun p hp => J.pin p hp |>.2.1 |> fun _ => absurd (show p ∈ ([] : List (Addr × Obj)) ++ [] from hp) (by simp), hok, J.len⟩
  · obtain ⟨m, hm, hl⟩ := J.loc
    refine ⟨m, hm.at' fun o e => hC o e, fun i x v e1 e2 e3 => ?_⟩
    obtain ⟨u, r, l⟩ := hl i x v e1 e2 e3
    refine ⟨u, r, ?_⟩
    rcases l with l | ⟨k, c, e, q⟩
    · exact .inl l
    · exact .inr ⟨k, c, e, cell x c e _ q⟩
  · obtain ⟨v, q⟩ := J.cell x c e
    exact ⟨v, cell x c e v q⟩
  · obtain ⟨n1, o1, e1⟩ := hcl x c e
    exact un.free c o1 e1 n1 (fun z => nomatch z)
end

/-- an expression that makes and wakes no generator -/
structure PEg (X : Cx) (e : Expr) (t : TE) : Prop where
  run : ∀ (pins : List (Addr × Obj)) (s : Shared) (σ : St) (H : Hp) (Q : VK), Inv X pins σ H s → t σ H Q → wpAny (model X.prog X.w) X.A (eval e X.env) (fun u s' => s'.gens = s.gens ∧ EP X pins σ Q u s') X.xe s
theorem pg_var {X : Cx} {i : Nat} {x : Str} {pos : Pos} (hN : X.N[i]? = some x) (hv : Vis X.env.scope x) (hd : (x == ("__debug__" : Str)) = false := by decide) (hcd : (x == ("__classdict__" : Str)) = false := by decide) : PEg X (.Name x pos) (tVar i) := by
  refine ⟨fun pins s σ H Q I h => ?_⟩
  obtain ⟨v, e, h⟩ := h
  obtain ⟨m, hn, hl⟩ := I.loc
  obtain ⟨u, r, l⟩ := hl i x v hN e hv
  have fin : s.gens = s.gens ∧ EP X pins σ Q u s := ⟨rfl, v, H, I, r, h⟩
  rcases l with ⟨hk, hm⟩ | ⟨hk, c, hc, hcell⟩
  · exact wpAny_Name (wpAny_loadName_local I.ok.kind hk hn hm fin) hd
  · rcases hk with hk | hk
    · exact wpAny_Name (wpAny_loadName_cell I.ok.kind hk hc hcell fin) hd
    · exact wpAny_Name (wpAny_loadName_free I.ok.kind hk hc hcell fin hcd) hd

/-- what a generator's expression asks: what holds of the heap where it is made; the wishes -/
abbrev TGq := St → Hp → (Hp → Prop) → (Gh → Hp → Prop) → (Gh → V → Hp → Prop) → (Gh → Hp → Prop) → Prop
structure PGq (X : Cx) (k : Nat) (e : Expr) (tg : TGq) (E : St → XK) : Prop where
  run : ∀ (pins : List (Addr × Obj)) (s : Shared) (σ : St) (H : Hp) (P0 : Hp → Prop) (Cw : Gh → Hp → Prop) (Yw : Gh → V → Hp → Prop) (Qw : Gh → Hp → Prop), Inv X pins σ H s → tg σ H P0 Cw Yw Qw → wpAny (model X.prog X.w) X.A (eval e X.env)
    (fun u s' => ∃ H1 sc, Inv X pins σ H1 sc ∧ P0 H1 ∧ GsMade X.prog X.w k X.stack H1 sc Cw Yw Qw (E σ) u s') X.xe s
def tCallGs (sp : SpGs) (dvs : List V) (E : St → XK) (t : TA) : TGq := fun σ H P0 Cw Yw Qw => t σ H fun vs H1 => P0 H1 ∧ sp (vs ++ dvs) H1 Cw Yw Qw (E σ)
theorem pgs_call {X : Cx} {k : Nat} {f : Addr} {fd : FuncData} {ps : List Str} {sp : SpGs} {dvs : List V} {ds : List Value} {x : Str} {p pos' : Pos} {E : St → XK} {e : Expr} {es : List Expr} {t : TA} (F : GFns X.prog X.w X.K X.mg X.base k f fd ps sp) (hr : Room k X.A) (hg : Gl X x) (hm : X.mg x = some (.ref f))
    (hk : PySem.W.keepIn X.K (.ref f) = true) (hb : Binds X.K fd ps ds) (hd : Vals dvs ds) (ha : PA X (e :: es) t) (hdb : (x == ("__debug__" : Str)) = false := by decide) (he : starEach (e :: es) X.env = (false, eval e X.env) :: starEach es X.env := by rfl)
    (hpl : (backTo pos' (starEach es X.env)).any (·.1) = false := by rfl) : PGq X k (.Call (.Name x p) (e :: es) [] pos') (tCallGs sp dvs E t) E := by
  refine ⟨fun pins s σ H P0 Cw Yw Qw I h => ?_⟩
  refine wpAny_Call_Name_kw (ld_glob I hg hm ?_ hdb)
  refine PySem.W.callWith_K (h₀ := X.base) I.ok.mod.kin hk (thn (ha.run pos' pins s σ H _ I h) fun us s1 ⟨vs, H1, I1, r, p0, q⟩ => ⟨I1.kIn, ?_⟩) he hpl
  have r2 : Vals (vs ++ dvs) (us ++ ds) := r.append hd
  have hl2 : (us ++ ds).length = ps.length := by rw [← r2.length]; exact F.len _ _ _ _ _ _ q
  refine wpAny_call (codeAny_mono (F.run X.A X.stack s1 H1 ⟨us, []⟩ (us ++ ds) (vs ++ dvs) Cw Yw Qw (E σ) hr I1.env0 (hb s1 us I1.kIn hl2) r2 q) fun r s' hq => ?_)
  cases r with
  | error e => exact False.elim hq
  | ok fl =>
    cases fl with
    | ret u => exact ⟨H1, s1, I1, p0, hq⟩
    | next => exact False.elim hq
    | brk => exact False.elim hq
    | cont => exact False.elim hq
end L2

/-! G6 -/
/-! ### an exception out of a generator that a comprehension walks -/
namespace L2
open PySem PySem.Spec PyProof.Rows GenW
theorem fails_of {X : Cx} {pins : List (Addr × Obj)} {σ : St} {H1 : Hp} {sc s1 : Shared} {Wx : WX} {E : XK} {ce : Env} {e : Value} {m : Str → Option Value} (I : Inv X pins σ H1 sc) (tk : Takes X Wx) (hW : ∀ cls d H, E cls d H → Wx cls d σ H)
    (hstk : X.stack = X.env :: X.outer) (hf : X.env.frame = some X.env.locals) (hcf : ce.frame = X.env.frame) (hC : ce.locals ∉ frs X.stack) (hsz : sc.heap.objs.size ≤ ce.locals)
    (c : CX X.prog X.w X.stack H1 sc (fun cls d H' => E cls d H' ∧ H' ce.locals = none) e s1) (hn : s1.heap.Ns ce.locals m) :
    notedBy (model X.prog X.w) X.A ce (CompFails (model X.prog X.w) X.A X.xe ce) e s1 := by
  obtain ⟨a, B, H', cls, d, rfl, fl, hok, ub, na, os, ag, hE, hnC⟩ := c
  obtain ⟨f1, f2, f3, f4⟩ := fl
  obtain ⟨B', hB'⟩ : ∃ B', B' = PySem.W.hideAll B [ce.locals] := ⟨_, rfl⟩
  have hB1 : ∀ b o, B'.get? b = some o → B.get? b = some o := fun b o e => by rw [hB'] at e; exact PySem.W.of_hideAll _ e
  have hB0 : ∀ b, B.get? b = none → B'.get? b = none := fun b e => by
    cases q : B'.get? b with
    | none => rfl
    | some o => rw [hB1 b o q] at e; cases e
  have hB2 : ∀ b o, b ≠ ce.locals → B.get? b = some o → B'.get? b = some o := fun b o hb e => by
    rw [hB']; exact PySem.W.hideAll_get _ e fun z => hb (List.mem_singleton.mp z)
  have hB3 : B'.get? ce.locals = none := by rw [hB']; exact PySem.W.hideAll_none _ (List.mem_singleton.mpr rfl)
  have fl' : HandSPX.FlyingZ B' X.stack a (Zc cls d) s1.heap := by
    refine ⟨fun b o e => f1 b o (hB1 b o e), hB0 a f2, funFrames_none f3 fun b hb => hB0 b (f3.mem hb).1, ?_⟩
    obtain ⟨oe, vs, T, oT, ts, he, hz, hd, h1, hnT, r⟩ := f4
    exact ⟨oe, vs, T, oT, ts, he, hz, hd, h1, hB0 T hnT, r⟩
  have hfr : X.A.frames = some (X.env :: X.outer) := by rw [I.ok.frames, hstk]
  show wpAny _ X.A (noteFrame (.ref a) ce) _ _ s1
  rw [noteFrame_env _ hcf]
  have fl2 := fl'
  rw [hstk] at fl2
  refine HandSPX.looks_onZ Zc.steady hfr hf fl2 fun h' held up => ?_
  refine ⟨m, hn.upToSlots up, fun h2 m2 hn2 hs2 => ?_⟩
  have hn' := hn.upToSlots up
  obtain ⟨b1, b0, ff, oe, vs, T, oT, ts, he, hz, hd, h1, hnT, hTe, hT, hdT, h3⟩ := held
  have nC : ∀ b o us, h'.get? b = some o → o.data = .fields us → b ≠ ce.locals := fun b o us e q z => by
    obtain ⟨oc, es, ep, eo, ed, _⟩ := hn'
    rw [z, eo] at e; cases e
    rw [ed] at q; cases q
  have he2 : h2.get? a = some oe := (hs2.2 a (nC a oe vs he hd)).trans he
  have hT2 : h2.get? T = some oT := (hs2.2 T (nC T oT ts hT hdT)).trans hT
  have b2 : B'.StaysIn h2 := fun b o e => (hs2.2 b fun q => by rw [q, hB3] at e; cases e).trans (b1 b o e)
  have f2' : h2.FunFrames B' (X.env :: X.outer) := Heap.FunFrames.sameBut hs2 hn2 ff
  unfold PySem.passOn
  refine wpAny_bind (wpAny_field he2 hd h1 ?_)
  rw [if_neg (show ¬ ((Value.ref T == Value.none) = true) from by simp), hcf, hf]
  refine wpAny_bind (HandSPX.setFlight_onZ (l := X.env :: X.outer) ⟨b2, b0, f2', oe, vs, T, oT, ts, he2, hz, hd, h1, hnT, hTe, hT2, hdT, h3⟩ fun h3' held3 up3 => ?_)
  refine wpAny_throw ?_
  obtain ⟨G, g1, g2⟩ := restrict s1.heap fun b => (B'.get? b).isSome || decide (b ∈ frs X.stack)
  have st : B'.StaysIn s1.heap := fl'.1
  have gB : ∀ b o, B'.get? b = some o → G.get? b = some o := fun b o e => by
    rw [g1 b (by simp [e])]
    exact st b o e
  have gF : ∀ b, b ∈ frs X.stack → G.get? b = s1.heap.get? b := fun b hb => g1 b (by simp [hb])
  have og : ∀ b o, G.get? b = some o → s1.heap.get? b = some o ∧ ((B'.get? b).isSome = true ∨ b ∈ frs X.stack) := fun b o e => by
    cases q : ((B'.get? b).isSome || decide (b ∈ frs X.stack)) with
    | false => rw [g2 b q] at e; cases e
    | true =>
      rw [g1 b q] at e
      exact ⟨e, by simpa [Bool.or_eq_true] using q⟩
  have held4 : HandSPX.HeldZ B' X.stack a (Zc cls d) X.env.locals h3' := by rw [hstk]; exact held3
  have ltC : ∀ b o, sc.heap.get? b = some o → b ≠ ce.locals := fun b o e => Nat.ne_of_lt (Nat.lt_of_lt_of_le (Heap.lt_size e) hsz)
  refine tk _ _ ⟨a, B', { sc with heap := G, gens := s1.gens, drawn := s1.drawn, toks := s1.toks }, pins, σ, H', cls, d, rfl, ?_, fun b o e hb => ?_, fun b o e hnf => ?_, .inr (.inr held4), na, os, ag, hW _ _ _ hE⟩
  · have hokB : HOk X.prog X.w H' B' := fun b o q => (hok b o q).stay (fun c u hc r => hB2 c u (fun z => by
      rcases hc with hc | hc
      · rw [← hc, z, hnC] at q; cases q
      · rw [z, hnC] at hc; cases hc) r) (fun _ r => r) fun _ _ r => r
    refine I.call (ch := []) ⟨fun b o e n hb _ => gB b o (hB2 b o (ltC b o e) (ub.keep b o e n hb)), fun b o e n hb _ => ?_, fun b o e n _ => ub.free b o e n, fun b o e _ => ?_, ub.tups, ub.frzs, ub.tbls⟩ (hokB.kept gB) ag (fun _ z => nomatch z)
    · obtain ⟨sl, q⟩ := ub.slot b o e hb
      exact ⟨sl, by rw [gF b hb]; exact q⟩
    · by_cases hb : b ∈ frs X.stack
      · obtain ⟨sl, q⟩ := ub.slot b o e hb
        exact ⟨_, by rw [gF b hb]; exact q⟩
      · obtain ⟨o', q⟩ := ub.there b o e hb
        exact ⟨o', gB b o' (hB2 b o' (ltC b o e) q)⟩
  · obtain ⟨e', h⟩ := og b o e
    rcases h with h | h
    · obtain ⟨o', q⟩ := Option.isSome_iff_exists.mp h
      have z := st b o' q
      rw [e'] at z; cases z
      exact q
    · exact absurd h hb
  · obtain ⟨e', h⟩ := og b o e
    have bC : b ≠ ce.locals := fun z => by
      rw [z] at h
      rcases h with h | h
      · rw [hB3] at h; cases h
      · exact hC h
    obtain ⟨sl, e1⟩ := up b o e' hnf
    have e2 : h2.get? b = some { o with slots := sl } := (hs2.2 b bC).trans e1
    obtain ⟨sl', e3⟩ := up3 b _ e2 hnf
    exact ⟨sl', e3⟩
end L2

/-! G7 -/
/-! ### [.. for x in g(..)] -/
namespace L2
open PySem PySem.Spec PyProof.Rows GenW
/-- the consumer's list, by its object -/
def IsAcc (o : Option Obj) (acc : List V) : Prop := ∃ (its : List Value) (n : Nat), o = some { cls := .type "list", data := .seq its.toArray n } ∧ Vals acc its ∧ acc.length ≤ sizeLine
/-- one step of the comprehension: its heap holds the list at D and all that the generator tracks -/
def LcStep (te : TE) (σ : St) (i : Nat) (Pv : Nat → List V → Hp → Prop) (k : Nat) (acc : List V) (x : V) (H : Hp) : Prop :=
  acc.length < sizeLine ∧ ∀ D Hc, H D = none → Hc D = some (.lst acc) → (∀ b o, H b = some o → Hc b = some o) → te ((σ.set i none).set i (some x)) Hc fun y H4 => (∀ b o, Hc b = some o → H4 b = some o) ∧
    ∀ H', (∀ b o, H b = some o → H' b = some o) → (∀ b o, Hc b = none → H4 b = some o → H' b = some o) → Pv (k + 1) (acc ++ [y]) H'
/-- Pv: by the number of items, the list so far, the heap -/
def cwOf (Pv : Nat → List V → Hp → Prop) : Gh → Hp → Prop := fun g H => ∃ acc, IsAcc g.2 acc ∧ Pv g.1 acc H
def ywOf (te : TE) (σ : St) (i : Nat) (Pv : Nat → List V → Hp → Prop) : Gh → V → Hp → Prop := fun g x H => ∃ acc, IsAcc g.2 acc ∧ LcStep te σ i Pv g.1 acc x H
def qwOf (Q : VK) : Gh → Hp → Prop := fun g H => ∃ acc, IsAcc g.2 acc ∧ ∀ D, H D = none → Q (.ref D) (upd H D (.lst acc))
def tLcg (tg : TGq) (te : TE) (i : Nat) : TE := fun σ H Q => ∃ Pv : Nat → List V → Hp → Prop, tg σ H (Pv 0 []) (cwOf Pv) (ywOf te σ i Pv) (qwOf Q)

/-- the consumer's heap where an item comes: the generator's, the list, all else of ours as it stands -/
def hcOf (H : Hp) (D C : Addr) (acc : List V) (H1 : Hp) (hs hn : Heap) : Hp := fun b => match H b with
  | some o => some o
  | none => if b = D then some (.lst acc) else if b = C then none else if ((hs.get? b).isSome && (H1 b).isNone) = true then none else (hn.get? b).map fun o => .ext fun h => h.get? b = some o
theorem hcOf_some {H : Hp} {D C : Addr} {acc : List V} {H1 : Hp} {hs hn : Heap} {b : Addr} {o : HO} (e : H b = some o) : hcOf H D C acc H1 hs hn b = some o := by unfold hcOf; rw [e]
theorem hcOf_D {H : Hp} {D C : Addr} {acc : List V} {H1 : Hp} {hs hn : Heap} (e : H D = none) : hcOf H D C acc H1 hs hn D = some (.lst acc) := by unfold hcOf; rw [e]; simp
theorem hcOf_C {H : Hp} {D C : Addr} {acc : List V} {H1 : Hp} {hs hn : Heap} (e : H C = none) (h : C ≠ D) : hcOf H D C acc H1 hs hn C = none := by unfold hcOf; rw [e]; simp [h]
theorem hcOf_old {H : Hp} {D C : Addr} {acc : List V} {H1 : Hp} {hs hn : Heap} {b : Addr} {o : Obj} (e : H b = none) (h : b ≠ D) (h1 : hs.get? b = some o) (h2 : H1 b = none) : hcOf H D C acc H1 hs hn b = none := by
  unfold hcOf; rw [e]; simp [h, h1, h2]
theorem hcOf_ext {H : Hp} {D C : Addr} {acc : List V} {H1 : Hp} {hs hn : Heap} {b : Addr} {o : Obj} (e : H b = none) (h : b ≠ D) (hc : b ≠ C) (h1 : ¬ (∃ o, hs.get? b = some o ∧ H1 b = none)) (h2 : hn.get? b = some o) :
    hcOf H D C acc H1 hs hn b = some (.ext fun h => h.get? b = some o) := by
  have q : ((hs.get? b).isSome && (H1 b).isNone) = false := by
    cases a : hs.get? b with
    | none => rfl
    | some o' =>
      cases c : H1 b with
      | none => exact absurd ⟨o', a, c⟩ h1
      | some _ => rfl
  unfold hcOf; rw [e]; simp [h, hc, q, h2]
/-- what stands at an address of it -/
theorem hcOf_cases {H : Hp} {D C : Addr} {acc : List V} {H1 : Hp} {hs hn : Heap} {b : Addr} {u : HO} (e : hcOf H D C acc H1 hs hn b = some u) :
    H b = some u ∨ (H b = none ∧ b = D ∧ u = .lst acc) ∨ (H b = none ∧ b ≠ D ∧ b ≠ C ∧ ∃ o, hn.get? b = some o ∧ u = .ext fun h => h.get? b = some o) := by
  unfold hcOf at e
  cases q : H b with
  | some o => rw [q] at e; exact .inl e
  | none =>
    rw [q] at e
    dsimp only at e
    by_cases hD : b = D
    · rw [if_pos hD] at e
      exact .inr (.inl ⟨rfl, hD, (Option.some.inj e).symm⟩)
    · rw [if_neg hD] at e
      by_cases hC : b = C
      · rw [if_pos hC] at e; cases e
      · rw [if_neg hC] at e
        split at e
        · cases e
        · cases z : hn.get? b with
          | none => rw [z] at e; cases e
          | some o =>
            rw [z] at e
            exact .inr (.inr ⟨rfl, hD, hC, o, rfl, (Option.some.inj e).symm⟩)
theorem hcOf_ok {P : Program} {w : World} {H : Hp} {D C : Addr} {acc : List V} {H1 : Hp} {hs hn : Heap} (ok : HOk P w H hn) (hD : H D = none) (ha : ∃ (its : List Value) (n : Nat), hn.get? D = some { cls := .type "list", data := .seq its.toArray n } ∧ Vals acc its ∧ acc.length ≤ sizeLine) : HOk P w (hcOf H D C acc H1 hs hn) hn := fun b u e => by
  rcases hcOf_cases e with q | ⟨_, q1, q2⟩ | ⟨q0, q1, q2, o, q3, q4⟩
  · refine (ok b u q).stay (fun _ _ _ r => r) (fun c r => hcOf_some r) fun c xs r => hcOf_some r
  · subst q1 q2
    obtain ⟨its, n, h1, h2, h3⟩ := ha
    exact ⟨h3, its, n, h2, h1⟩
  · subst q4
    exact ⟨q3, ⟨o, q3⟩, fun h1 h2 x k => k o x⟩

/-- what the generator finds when it is woken -/
def hwOf (H : Hp) (hn : Heap) (H4 : Hp) : Hp := fun b => match H b with
  | some o => some o
  | none => if (hn.get? b).isSome = true then none else H4 b
theorem hwOf_some {H H4 : Hp} {hn : Heap} {b : Addr} {o : HO} (e : H b = some o) : hwOf H hn H4 b = some o := by unfold hwOf; rw [e]
theorem hwOf_old {H H4 : Hp} {hn : Heap} {b : Addr} {o : Obj} (e : H b = none) (h : hn.get? b = some o) : hwOf H hn H4 b = none := by unfold hwOf; rw [e]; simp [h]
theorem hwOf_new {H H4 : Hp} {hn : Heap} {b : Addr} (e : H b = none) (h : hn.get? b = none) : hwOf H hn H4 b = H4 b := by unfold hwOf; rw [e]; simp [h]
theorem hwOf_cases {H H4 : Hp} {hn : Heap} {b : Addr} {u : HO} (e : hwOf H hn H4 b = some u) : H b = some u ∨ (H b = none ∧ hn.get? b = none ∧ H4 b = some u) := by
  cases q : H b with
  | some o => rw [hwOf_some q] at e; exact .inl e
  | none =>
    cases z : hn.get? b with
    | some o => rw [hwOf_old q z] at e; cases e
    | none => rw [hwOf_new q z] at e; exact .inr ⟨rfl, rfl, e⟩

section
variable {X : Cx} {pins : List (Addr × Obj)} {σ σ8 : St} {H1 H' H4 : Hp} {sc s1 s9 : Shared} {scope : Scope} {ce : Env} {D : Addr} {acc acc2 : List V}
/-- behind a step of the consumer the generator has slept -/
theorem slp_of (I : Inv X pins σ H1 sc) (un1 : Un (frs X.stack) [] H1 H' sc.heap s1.heap) (ok1 : HOk X.prog X.w H' s1.heap) (os1 : s1.os = sc.os) (hD : H' D = none) (hC : H' ce.locals = none) (hDC : D ≠ ce.locals) (hcs : ce.locals ∉ frs X.stack) (eD : ∃ o, s1.heap.get? D = some o) (eC : ∃ o, s1.heap.get? ce.locals = some o)
    (J : Inv (X.blk sc H1 scope ce []) [] σ8 (upd H4 D (.lst acc2)) s9) (keep : ∀ b o, hcOf H' D ce.locals acc H1 sc.heap s1.heap b = some o → b ≠ D → H4 b = some o) :
    Slp X.prog X.w (frs X.stack) [D, ce.locals] H' (hwOf H' s1.heap H4) s1 s9 ∧ (∀ b o, hcOf H' D ce.locals acc H1 sc.heap s1.heap b = none → upd H4 D (.lst acc2) b = some o → hwOf H' s1.heap H4 b = some o) := by
  have fr : (X.blk sc H1 scope ce []).fs = frs X.stack := rfl
  have nIn : ∀ {b}, b ∉ [D, ce.locals] → b ≠ D ∧ b ≠ ce.locals := fun h => ⟨fun z => h (by simp [z]), fun z => h (by simp [z])⟩
  -- untracked there, standing there: untracked behind
  have none4 : ∀ b o, s1.heap.get? b = some o → hcOf H' D ce.locals acc H1 sc.heap s1.heap b = none → upd H4 D (.lst acc2) b = none := fun b o e n => by
    have hb : b ≠ D := fun z => by rw [z, hcOf_D hD] at n; cases n
    cases q : H' b with
    | some u => rw [hcOf_some q] at n; cases n
    | none =>
      by_cases hc : b = ce.locals
      · rw [hc]; exact J.free
      · by_cases ho : ∃ o, sc.heap.get? b = some o ∧ H1 b = none
        · obtain ⟨o1, e1, n1⟩ := ho
          exact J.base.free b o1 e1 n1 (fun z => nomatch z)
        · rw [hcOf_ext q hb hc ho e] at n; cases n
  have keptAt : ∀ b o, s1.heap.get? b = some o → H' b = none → b ∉ frs X.stack → b ≠ D → b ≠ ce.locals → s9.heap.get? b = some o := fun b o e n hf hb hc => by
    by_cases ho : ∃ o, sc.heap.get? b = some o ∧ H1 b = none
    · obtain ⟨o1, e1, n1⟩ := ho
      have a1 := un1.keep b o1 e1 n1 hf (fun z => nomatch z)
      rw [e] at a1; cases a1
      exact J.base.keep b _ e1 n1 hf (fun z => nomatch z)
    · have z := keep b _ (hcOf_ext n hb hc ho e) hb
      have z2 : upd H4 D (.lst acc2) b = some (.ext fun h => h.get? b = some o) := by rw [upd_ne hb]; exact z
      exact (J.hok b _ z2).1
  have slotAt : ∀ b o, s1.heap.get? b = some o → b ∈ frs X.stack → ∃ sl, s9.heap.get? b = some { o with slots := sl } := fun b o e hf => by
    obtain ⟨_, o1, e1, _⟩ := I.stack.mem hf
    have n1 := I.stkFree b hf
    obtain ⟨sl1, a1⟩ := un1.slot b o1 e1 n1 hf (fun z => nomatch z)
    rw [e] at a1; cases a1
    obtain ⟨sl2, a2⟩ := J.base.slot b o1 e1 n1 hf (fun z => nomatch z)
    exact ⟨sl2, a2⟩
  have tr4 : ∀ b u, H' b = some u → H4 b = some u := fun b u e => keep b u (hcOf_some e) fun z => by rw [z, hD] at e; cases e
  have hok : HOk X.prog X.w (hwOf H' s1.heap H4) s9.heap := fun b u e => by
    have e4 : upd H4 D (.lst acc2) b = some u := by
      rcases hwOf_cases e with q | ⟨q1, q2, q3⟩
      · rw [upd_ne fun z => by rw [z, hD] at q; cases q]; exact tr4 b u q
      · obtain ⟨o, eo⟩ := eD
        rw [upd_ne fun z => by rw [z, eo] at q2; cases q2]; exact q3
    have toW : ∀ c v, upd H4 D (.lst acc2) c = some v → (∀ φ, v ≠ .ext φ) → (∀ l, v ≠ .lst l) → hwOf H' s1.heap H4 c = some v := fun c v ec nx nl => by
      have hc : c ≠ D := fun z => by rw [z, upd_same] at ec; cases ec; exact nl _ rfl
      cases q : H' c with
      | some o =>
        have e5 := tr4 c o q
        rw [upd_ne hc, e5] at ec; cases ec
        exact hwOf_some q
      | none =>
        cases z : s1.heap.get? c with
        | none => rw [hwOf_new q z]; rw [upd_ne hc] at ec; exact ec
        | some o =>
          cases y : hcOf H' D ce.locals acc H1 sc.heap s1.heap c with
          | none => rw [none4 c o z y] at ec; cases ec
          | some v' =>
            have e5 := keep c v' y hc
            rw [upd_ne hc, e5] at ec; cases ec
            rcases hcOf_cases y with y1 | ⟨_, y1, _⟩ | ⟨_, _, _, o', _, y1⟩
            · rw [q] at y1; cases y1
            · exact absurd y1 hc
            · exact absurd y1 (nx _)
    exact (J.hok b u e4).stay (fun _ _ _ r => r) (fun c r => toW c _ r (fun _ z => by cases z) (fun _ z => by cases z)) fun c xs r => toW c _ r (fun _ z => by cases z) (fun _ z => by cases z)
  refine ⟨⟨J.os.trans os1.symm, J.bare, ⟨fun b o e n hf hx => ?_, fun b o e n hf _ => slotAt b o e hf, fun b o e n _ => hwOf_old n e, fun b o e hx => ?_, fun b xs e => hwOf_some e, fun b o xs e => hwOf_some e, fun b ps e => ⟨#[], by rw [hwOf_some e]; simp⟩⟩, hok, fun b o e => hwOf_some e, fun b hb => ?_⟩, fun b o n e => ?_⟩
  · obtain ⟨h1, h2⟩ := nIn hx
    exact keptAt b o e n hf h1 h2
  · obtain ⟨h1, h2⟩ := nIn hx
    cases q : H' b with
    | some u => exact (hok b u (hwOf_some q)).there
    | none =>
      by_cases hf : b ∈ frs X.stack
      · obtain ⟨sl, z⟩ := slotAt b o e hf; exact ⟨_, z⟩
      · exact ⟨o, keptAt b o e q hf h1 h2⟩
  · rcases List.mem_cons.mp hb with z | z
    · subst z
      obtain ⟨o, eo⟩ := eD
      obtain ⟨_, its, n, _, e2⟩ := J.hok b _ upd_same
      exact ⟨hwOf_old hD eo, _, e2, fun v q => by cases q⟩
    · have z : b = ce.locals := List.mem_singleton.mp z
      subst z
      obtain ⟨o, eo⟩ := eC
      obtain ⟨m, ⟨o2, es, ep, e2, ed, _⟩, _⟩ := J.loc
      exact ⟨hwOf_old hC eo, o2, e2, fun v q => by rw [ed] at q; cases q⟩
  · have hb : b ≠ D := fun z => by rw [z, hcOf_D hD] at n; cases n
    have q : H' b = none := by
      cases q : H' b with
      | none => rfl
      | some u => rw [hcOf_some q] at n; cases n
    cases z : s1.heap.get? b with
    | some o' => rw [none4 b o' z n] at e; cases e
    | none => rw [hwOf_new q z]; rw [upd_ne hb] at e; exact e
end
end L2

/-! G8 -/
/-! ### the rule -/
namespace L2
open PySem PySem.Spec PyProof.Rows GenW
theorem pushCells_none : ∀ {names : List (Str × NameKind)} {h : Heap}, (∀ y ∈ names, y.2 ≠ .cell) → pushCells h names = h
  | [], _, _ => rfl
  | (n, k) :: r, h, hc => by
    have hk : k ≠ .cell := hc (n, k) List.mem_cons_self
    unfold pushCells
    rw [if_neg (by simpa using hk)]
    exact pushCells_none fun y hy => hc y (List.mem_cons_of_mem _ hy)
theorem cellsFrom_none {n : Nat} : ∀ {names : List (Str × NameKind)} {acc : List (Str × Addr)}, (∀ y ∈ names, y.2 ≠ .cell) → cellsFrom n names acc = acc
  | [], _, _ => rfl
  | (m, k) :: r, acc, hc => by
    have hk : k ≠ .cell := hc (m, k) List.mem_cons_self
    unfold cellsFrom
    rw [if_neg (by simpa using hk)]
    exact cellsFrom_none fun y hy => hc y (List.mem_cons_of_mem _ hy)
section
variable {X : Cx}
theorem pe_lcg {k i : Nat} {x : Str} {px : Pos} {elt iter : Expr} {scope : Scope} {pos : Pos} {tg : TGq} {te : TE} {E : St → XK} {Wx : WX} (hc : X.calm = true) (hN : X.N.Nodup) (hstk : X.stack = X.env :: X.outer) (hf : X.env.frame = some X.env.locals) (hroom : Room (k + 1) X.A)
    (hi : PGq X k iter tg E) (tk : Takes X Wx) (hW : ∀ cls d σ H, E σ cls d H → Wx cls d σ H) (hns : ∀ σ, NoStop X.K (E σ)) (ok : BlkOk X.N X.env.scope scope [(x, i)]) (hcell : ∀ y ∈ scope.names, y.2 ≠ .cell) (hx : scope.names.lookup x = some .local)
    (he : ∀ (s : Shared) (H : Hp) (C : Addr) (cl : List (Str × Addr)), PEg (X.blk s H scope (compEnvC scope cl C X.env) []) elt te) (hs : ∀ x, foldedSetIterable iter X.env x = pure x := by intro _; rfl) :
    PE X (.ListComp elt [⟨.Name x px, iter, [], 0⟩] scope pos) (tLcg tg te i) := by
  refine ⟨fun pins s σ H Q I h => ?_⟩
  have hfree : ∀ y ∈ scope.names, y.2 = .free → ∃ c, X.env.cells.lookup y.1 = some c := fun y hy e => by
    rcases ok.free y hy e with k | k
    · exact I.ok.has _ (.inl k)
    · exact I.ok.has _ (.inr k)
  rw [eval_ListComp]
  obtain ⟨Pv, h⟩ := h
  refine comprehension_at (use := none) rfl hs (closure_ok hfree) ok.kind (fun y hy e => by rw [ok.uniq y hy, e]) (thn (hi.run pins s σ H _ _ _ _ I h) fun xv s1 hq => ?_)
  obtain ⟨H1, sc, I1, p0, a, gi, c, rfl, ha1, ha2, hg, hgs, hos, hba, hl, hkp, wake⟩ := hq
  refine wpAny_pyIter_gen hg (wpAny_newObj_type (newEnv_comp ?_) (by show 0 ≤ sizeLine; decide))
  generalize hD : s1.heap.objs.size = D
  have Is1 : Inv X pins σ H1 s1 := I1.call' (ch := []) hos (Un.kept hkp) (I1.hok.kept hkp) hba fun b z => nomatch z
  generalize hs3 : ({ s1 with heap := s1.heap.push { cls := .type "list", data := .seq ([] : List Value).toArray } } : Shared) = s3
  have h3 : s3.heap = s1.heap.push { cls := .type "list", data := .seq ([] : List Value).toArray } := by rw [← hs3]
  have I3 : Inv X pins σ (upd H1 D (.lst [])) s3 := by
    rw [← hs3]
    refine Is1.laid (t' := s1.toks) (fun b o e => Heap.get?_push_of_some _ e) (Nat.le_of_eq hD) ⟨Nat.zero_le _, [], 0, .nil, ?_⟩
    rw [← hD]
    exact Heap.get?_push_size _ rfl
  have I4 := block_start (fp := []) (own := [(x, i)]) I3 ok hN (fun b z => nomatch z)
  show codeAny _ _ (.compStart (.ListComp elt [⟨.Name x px, iter, [], 0⟩] scope pos) 0 (.ref a) (.ref D) (compEnvC scope (cellsFrom (s3.heap.objs.size + 1) scope.names (cloFrom X.env.cells scope.names [])) s3.heap.objs.size X.env))
    (compEnds (model X.prog X.w) X.A X.xe none (EP X pins σ Q) (.ref D) (compEnvC scope (cellsFrom (s3.heap.objs.size + 1) scope.names (cloFrom X.env.cells scope.names [])) s3.heap.objs.size X.env)) { s3 with heap := pushCells (s3.heap.push { cls := .type "dict", data := .dict #[] }) scope.names }
  have pe := fun C cl => he sc H1 C cl
  have hcl : ∀ y c, (cellsFrom (s3.heap.objs.size + 1) scope.names (cloFrom X.env.cells scope.names [])).lookup y = some c → H1 c = none ∧ ∃ o, sc.heap.get? c = some o := fun y c e => by
    rw [cellsFrom_none hcell] at e
    rcases cloFrom_mem (PySem.mem_of_lookup e) with z | ⟨z, rfl⟩
    · cases z
    · obtain ⟨c', hc'⟩ := hfree _ z rfl
      rw [hc']
      obtain ⟨v, o, ho, _⟩ := I1.cell _ _ hc'
      exact ⟨I1.freeC _ _ hc', o, ho⟩
  have pec := pe s3.heap.objs.size (cellsFrom (s3.heap.objs.size + 1) scope.names (cloFrom X.env.cells scope.names []))
  generalize hce : compEnvC scope (cellsFrom (s3.heap.objs.size + 1) scope.names (cloFrom X.env.cells scope.names [])) s3.heap.objs.size X.env = ce at I4 pec ⊢
  have hclC : ∀ y c, ce.cells.lookup y = some c → H1 c = none ∧ ∃ o, sc.heap.get? c = some o := fun y c e => hcl y c (by rw [← hce] at e; exact e)
  have hcf : ce.frame = X.env.frame := by rw [← hce]; rfl
  have cL : ce.locals = s3.heap.objs.size := by rw [← hce]; rfl
  have hlk : ce.scope.names.lookup x = some .local := by rw [← hce]; exact lookup_relabel_local hx
  generalize hs4 : ({ s3 with heap := pushCells (s3.heap.push { cls := .type "dict", data := .dict #[] }) scope.names } : Shared) = s4 at I4 ⊢
  have k34 : ∀ b o, s3.heap.get? b = some o → s4.heap.get? b = some o := fun b o e => by rw [← hs4]; exact pushCells_keeps _ _ _ _ (Heap.get?_push_of_some _ e)
  have k13 : ∀ b o, s1.heap.get? b = some o → s3.heap.get? b = some o := fun b o e => by rw [h3]; exact Heap.get?_push_of_some _ e
  have kc4 : ∀ b o, sc.heap.get? b = some o → s4.heap.get? b = some o := fun b o e => k34 b o (k13 b o (hkp b o e))
  have szc1 : sc.heap.objs.size ≤ s1.heap.objs.size := Nat.le_of_lt (Nat.lt_of_le_of_lt ha1 ha2)
  have sz13 : s1.heap.objs.size < s3.heap.objs.size := by rw [h3, Heap.size_push]; exact Nat.lt_succ_self _
  have hDsc : sc.heap.objs.size ≤ D := by rw [← hD]; exact szc1
  have eD4 : s4.heap.get? D = some { cls := .type "list", data := .seq ([] : List Value).toArray } := k34 _ _ (by rw [h3, ← hD]; exact Heap.get?_push_size _ rfl)
  have hDC : D ≠ ce.locals := by rw [cL, ← hD]; exact Nat.ne_of_lt sz13
  have hCsc : sc.heap.objs.size ≤ ce.locals := by rw [cL]; exact Nat.le_trans szc1 (Nat.le_of_lt sz13)
  have hcs : ce.locals ∉ frs X.stack := fun z => by
    obtain ⟨_, o, ho, _⟩ := I3.stack.mem z
    rw [cL] at ho
    exact absurd (Heap.lt_size ho) (Nat.lt_irrefl _)
  have aD : a ≠ D := by rw [← hD]; exact Nat.ne_of_lt ha2
  have aC : a ≠ ce.locals := by rw [cL]; exact Nat.ne_of_lt (Nat.lt_trans ha2 sz13)
  have IB : Inv (X.blk sc H1 scope ce []) [] (wipe σ ([(x, i)].map (·.2))) (upd H1 D (.lst [])) s4 := blk_base I1 (Nat.le_trans szc1 (Nat.le_of_lt sz13)) I4 (by rw [← hs4, ← hs3]; exact hos) (Un.laid kc4 hDsc (I1.hok.fresh hDsc))
  have gty : s4.heap.IsGen a gi := hg.keeps fun b o e => k34 b o (k13 b o e)
  have g4 : s4.gens = s1.gens := by rw [← hs4, ← hs3]
  have o4 : s4.os = sc.os := by rw [← hs4, ← hs3]; exact hos
  obtain ⟨m4, hn4, _⟩ := id IB.loc
  have hn4 : s4.heap.Ns ce.locals m4 := hn4
  have hrA : X.A.in1.frames = some X.stack := I1.ok.frames
  -- the loop
  have goes : ∀ {gs : GenState} {B : Around} {n : Nat} {r : Resume} {s : Shared}, gs.Goes (model X.prog X.w) B (GsEnd X.prog X.w X.stack H1 sc a gi ⟨D, [D, ce.locals], cwOf Pv, ywOf te σ i Pv⟩ s4 (qwOf Q) (E σ)) (GsItem X.prog X.w X.stack H1 sc a gi ⟨D, [D, ce.locals], cwOf Pv, ywOf te σ i Pv⟩) n r s →
      gs.Goes (model X.prog X.w) B (fun n s₀ r s1 => ((r = .ok (.ret .none) ∨ r = .ok .next) ∧ (∃ g H', n + g.1 = sizeLine ∧ g.2 = s₀.heap.get? D ∧ s1.os = sc.os ∧ AllBare s1.gens ∧ Un (frs X.stack) [] H1 H' sc.heap s1.heap ∧ HOk X.prog X.w H' s1.heap ∧ (∀ b ∈ [D, ce.locals], H' b = none ∧ s1.heap.get? b = s₀.heap.get? b) ∧ qwOf Q g H')) ∨
        ∃ e, r = .error e ∧ (CX X.prog X.w X.stack H1 sc (fun cls d H' => E σ cls d H' ∧ ∀ b ∈ [D, ce.locals], H' b = none) e s1 ∧ s1.heap.IsGen a gi ∧ ∀ b ∈ [D, ce.locals], s1.heap.get? b = s4.heap.get? b)) (GsItem X.prog X.w X.stack H1 sc a gi ⟨D, [D, ce.locals], cwOf Pv, ywOf te σ i Pv⟩) n r s := fun h => h
  have mD : D ∈ [D, ce.locals] := List.mem_cons_self
  have mC : ce.locals ∈ [D, ce.locals] := List.mem_cons_of_mem _ (List.mem_singleton.mpr rfl)
  have hLoop : codeAny (model X.prog X.w) X.A (.compLoop (.ListComp elt [⟨.Name x px, iter, [], 0⟩] scope pos) 0 (.ref a) (.ref D) ce) (compEnds (model X.prog X.w) X.A X.xe none (EP X pins σ Q) (.ref D) ce) s4 := by
    refine compLoop_any (fun n s' => ∃ Hz gs, Inv (X.blk sc H1 scope ce []) [] (wipe σ ([(x, i)].map (·.2))) Hz s' ∧ s'.heap.IsGen a gi ∧ s'.gens[gi]? = some gs ∧
      gs.Goes (model X.prog X.w) X.A.in1 (GsEnd X.prog X.w X.stack H1 sc a gi ⟨D, [D, ce.locals], cwOf Pv, ywOf te σ i Pv⟩ s4 (qwOf Q) (E σ)) (GsItem X.prog X.w X.stack H1 sc a gi ⟨D, [D, ce.locals], cwOf Pv, ywOf te σ i Pv⟩) n (.send .none) (s'.setGen gi .running)) ?_ sizeLine ⟨_, .fresh c, IB, gty, by rw [g4]; exact hgs, rfl, ?_⟩
    rotate_left
    · refine wake X.A.in1 D [D, ce.locals] (s4.setGen gi .running) hroom.in1 hrA (fun S hS => ?_) (fun b o e => k34 b o (k13 b o e)) o4 (allBare_setGen (by rw [g4]; exact hba) rfl) ⟨[], ⟨[], 0, eD4, .nil, Nat.zero_le _⟩, p0⟩
      rcases List.mem_cons.mp hS with z | z
      · subst z
        exact ⟨Nat.le_of_eq hD, _, eD4, fun v q => by cases q⟩
      · have z : S = ce.locals := List.mem_singleton.mp z
        subst z
        obtain ⟨oC, es, ep, eC, edC, _⟩ := hn4
        exact ⟨by rw [cL]; exact Nat.le_of_lt sz13, oC, eC, fun v q => by rw [edC] at q; cases q⟩
    rintro n s5 ⟨Hz, gs, J5, hg5, hgs5, hgo⟩
    have hgl : gi < s5.gens.size := (Array.getElem?_eq_some_iff.mp hgs5).1
    obtain ⟨m5, hn5, _⟩ := id J5.loc
    have hn5 : s5.heap.Ns ce.locals m5 := hn5
    obtain ⟨oC5, esC, epC, eC5, edC, _⟩ := id hn5
    refine wpAny_gsz (n := gi + 1) hgl (next_genG (A := X.A) hroom.hd J5.nolimit (by have := hroom.dp; omega) hg5 hgs5 (goes hgo) (fun v s6 gs6 hbare hv => ?_) (fun s6 hp h' hk => ?_) fun e s6 he6 => ?_)
    · intro hsz
      obtain ⟨g, xv, H', hn6, hg6, rv, os6, ba6, nl6, ig6, ⟨na6, fa6⟩, un6, ok6, ts6, ⟨acc, hacc, hlt, hstep⟩, kap⟩ := hv
      obtain ⟨nD6, eD6⟩ := ts6 D mD
      obtain ⟨nC6, eC6⟩ := ts6 ce.locals mC
      have eD6 : s6.heap.get? D = s5.heap.get? D := eD6
      have eC6 : s6.heap.get? ce.locals = s5.heap.get? ce.locals := eC6
      have hg6 : g.2 = s5.heap.get? D := hg6
      obtain ⟨its, nn, eacc, racc, lacc⟩ := hacc
      rw [hg6, ← eD6] at eacc
      have hsz6 : gi < s6.gens.size := by
        have q : (s6.setGen gi gs6).gens.size = s6.gens.size := setGen_size _ _ _
        have hsz' : gi + 1 ≤ (s6.setGen gi gs6).gens.size := hsz
        omega
      have okc : HOk X.prog X.w (hcOf H' D ce.locals acc H1 sc.heap s6.heap) s6.heap := hcOf_ok ok6 nD6 ⟨its, nn, eacc, racc, lacc⟩
      have unc : Un (frs X.stack) [] H1 (hcOf H' D ce.locals acc H1 sc.heap s6.heap) sc.heap s6.heap :=
        ⟨un6.keep, un6.slot, fun b o e n hx => hcOf_old (un6.free b o e n hx) (fun z => by rw [z] at e; exact absurd (Nat.lt_of_lt_of_le (Heap.lt_size e) hDsc) (Nat.lt_irrefl _)) e n, un6.there, fun b xs e => hcOf_some (un6.tups b xs e), fun b o xs e => hcOf_some (un6.frzs b o xs e), fun b ps e => let ⟨more, q⟩ := un6.tbls b ps e; ⟨more, hcOf_some q⟩⟩
      have J6 : Inv (X.blk sc H1 scope ce []) [] (wipe σ ([(x, i)].map (·.2))) (hcOf H' D ce.locals acc H1 sc.heap s6.heap) (s6.setGen gi gs6) :=
        blk_again J5 hclC os6 (allBare_setGen ba6 hbare) unc okc (fun o e => by show s6.heap.get? ce.locals = some o; rw [eC6]; exact e) (hcOf_C nC6 (Ne.symm hDC))
      refine wpAny_pure ?_
      refine wpAny_assign_Name (store_g (i := i) (v := xv) J6 hN (ok.ix (x, i) (List.mem_singleton.mpr rfl)) hlk rv fun h8 t8 J8 => ?_)
      refine wpAny_tests_nil ?_
      rw [if_pos rfl]
      have q8 := hstep D (hcOf H' D ce.locals acc H1 sc.heap s6.heap) nD6 (hcOf_D nD6) (fun b o e => hcOf_some e)
      refine thnF (pec.run [] _ _ _ _ J8 q8) fun z s9 hz9 => ?_
      obtain ⟨gn9, y, H9, J9, r9, keep9, pv9⟩ := hz9
      refine app_g (X := X.blk sc H1 scope ce []) J9 (keep9 D _ (hcOf_D nD6)) hlt r9 fun h10 J10 => ?_
      obtain ⟨slp, hw⟩ := slp_of (X := X) (s9 := { s9 with heap := h10 }) (acc := acc) I1 un6 ok6 os6 nD6 nC6 hDC hcs ⟨_, eacc⟩ ⟨oC5, by rw [eC6]; exact eC5⟩ J10 (fun b o e _ => keep9 b o e)
      have slp2 : Slp X.prog X.w (frs X.stack) [D, ce.locals] H' (hwOf H' s6.heap H9) s6 (({ s9 with heap := h10 } : Shared).setGen gi .running) :=
        ⟨slp.os, allBare_setGen slp.bare rfl, slp.un, slp.hok, slp.more, slp.ts⟩
      obtain ⟨lz, itz, nz, rz, ez⟩ := J10.hok D _ upd_same
      have hpv : Pv (g.1 + 1) (acc ++ [y]) (hwOf H' s6.heap H9) := pv9 _ (fun b o e => hwOf_some e) fun b o n e => hw b o n (by
        rw [upd_ne fun q => by rw [q, hcOf_D nD6] at n; cases n]; exact e)
      have kp := kap (hwOf H' s6.heap H9) _ slp2 ⟨acc ++ [y], ⟨itz, nz, ez, rz, lz⟩, hpv⟩
      cases n with
      | zero => exact kp.elim
      | succ n =>
        refine ⟨n, Nat.lt_succ_self n, upd H9 D (.lst (acc ++ [y])), gs6, J10.weak (by simp [wipe]) (fun j v e => ?_), ?_, ?_, kp⟩
        · have e : (σ.set i none)[j]? = some (some v) := e
          show ((σ.set i none).set i (some xv))[j]? = some (some v)
          by_cases hj : i = j
          · subst hj
            by_cases hl : i < σ.length
            · rw [List.getElem?_set_self hl] at e; cases e
            · rw [List.getElem?_eq_none (by simpa using hl)] at e; cases e
          · rw [List.getElem?_set_ne hj]; exact e
        · obtain ⟨o, nm, qn, ho, r⟩ := ig6
          exact ⟨o, nm, qn, slp.un.keep a o ho na6 fa6 (fun z => by
            rcases List.mem_cons.mp z with z | z
            · exact aD z
            · exact aC (List.mem_singleton.mp z)), r⟩
        · show s9.gens[gi]? = some gs6
          rw [gn9]
          exact setGen_at hsz6
    · intro hsz
      obtain ⟨g, H', hn6, hg6, os6, ba6, un6, ok6, ts6, acc, hacc, hQ⟩ := hp
      obtain ⟨nD6, eD6⟩ := ts6 D mD
      obtain ⟨nC6, eC6⟩ := ts6 ce.locals mC
      have eD6 : s6.heap.get? D = s5.heap.get? D := eD6
      have eC6 : s6.heap.get? ce.locals = s5.heap.get? ce.locals := eC6
      have hg6 : g.2 = s5.heap.get? D := hg6
      obtain ⟨its, nn, eacc, racc, lacc⟩ := hacc
      rw [hg6, ← eD6] at eacc
      have If : Inv X pins σ (upd H' D (.lst acc)) { s6.setGen gi .finished with heap := h' } :=
        I1.drained (ex := []) (S := D) (acc := its.toArray) (c := nn) hDsc lacc (hk D _ eacc) (by simpa using racc) .nil os6 (allBare_setGen ba6 rfl) (un6.trans (Un.kept hk)) (ok6.kept hk) nD6
      have nC : upd H' D (.lst acc) ce.locals = none := by rw [upd_ne (Ne.symm hDC)]; exact nC6
      refine ⟨m5, hn5.at' fun o e => hk _ _ (by rw [eC6]; exact e), fun h2 sb => ?_⟩
      have fp := I3.fpOk (b := ce.locals) (Nat.le_of_eq cL.symm) nC
      obtain ⟨f0, f1, f2, f3, f4, f5⟩ := fp
      exact ⟨.ref D, upd H' D (.lst acc), If.turned (t' := s6.toks) (fun b o hb e => (sb.2 b hb).trans e) f0 f1 f3 f4 f5, rfl, hQ D nD6⟩
    · obtain ⟨hcx, hg1, hts⟩ := he6
      have kin : X.K.In s6.heap := by
        obtain ⟨ea, B, H', cls, d, _, fl, _, ub, _⟩ := id hcx
        refine I1.ok.mod.kin.keeps fun b o eb => fl.1 b o (ub.keep b o (I1.bs b o eb).1 (I1.bs b o eb).2 fun hm => ?_)
        rcases List.mem_cons.mp (I1.stkSub b hm) with z | z
        · have h1 := Heap.lt_size eb
          have h2 := Nat.le_trans I1.ok.bsz I1.ok.above
          rw [z] at h1
          exact absurd (Nat.lt_of_lt_of_le h1 h2) (Nat.lt_irrefl _)
        · exact I1.ok.nofr eb z
      have hns' : NoStop X.K (fun cls d H' => E σ cls d H' ∧ ∀ b ∈ [D, ce.locals], H' b = none) := fun cls d H' q => hns σ cls d H' q.1
      refine ⟨hg1, notStop_of hns' kin hcx, fun hsz => ?_⟩
      have hcx2 : CX X.prog X.w X.stack H1 sc (fun cls d H' => E σ cls d H' ∧ H' ce.locals = none) e (s6.setGen gi .finished) := by
        obtain ⟨ea, B, H', cls, d, z1, z2, z3, z4, z5, z6, z7, z8, z9⟩ := hcx
        exact ⟨ea, B, H', cls, d, z1, z2, z3, z4, z5, z6, allBare_setGen z7 rfl, z8, z9 _ mC⟩
      exact fails_of (m := m4) I1 tk (fun cls d H => hW cls d σ H) hstk hf hcf hcs hCsc hcx2 (hn4.at' fun o e => by
        show s6.heap.get? ce.locals = some o
        rw [hts _ mC]; exact e)
  exact codeAny_compStart_list hLoop (wpAny_pyIter_gen gty hLoop)
end
end L2

/-! G9 -/
/-! ### expressions that make and wake no generator: fields, list(..), calls -/
namespace L2
open PySem PySem.Spec PyProof.Rows GenW
section
variable {X : Cx} {pins : List (Addr × Obj)} {σ : St} {H : Hp} {s : Shared} {a C dx : Addr} {fs : List (Str × V)} {f : Str} {v : V} {A : Around} {E : Value → Shared → Prop}
theorem getattr_g {b : Bool} {Q : Value → Shared → Prop} (I : Inv X pins σ H s) (e : H a = some (.ins C dx fs)) (c : Cls X.K C) (n : NoAttr X.K C f) (l : fs.lookup f = some v)
    (h : ∀ u t, Inv X pins σ H { s with toks := t } → RelV v u → Q u { s with toks := t }) : wpAny (model X.prog X.w) A (getAttr (.ref a) f b) Q E s := by
  obtain ⟨mA, O, r, _, _, _⟩ := ins_get I.hok e
  obtain ⟨u, hu, ru⟩ := RelO.some_of (v := v) (o := mA f) (by rw [← l]; exact r f)
  exact get_map I.kIn O (c.get f) c.hd n hu (handed_of ru) (h u _ (I.tok _) ru)
end
section
variable {X : Cx} {e o : Expr} {es : List Expr} {f x m : Str} {pos p apos : Pos} {ta : TE} {k : Nat} {C g : Addr} {fd : FuncData} {ps : List Str} {sp : Sp}
theorem pg_fld (he : PEg X e ta) (hb : attributeBase e f X.env (eval e X.env) = eval e X.env) : PEg X (.Attribute e f pos) (tFld X.K ta f) := by
  refine ⟨fun pins s σ H Q I h => ?_⟩
  refine attr_of hb (thn (he.run pins s σ H _ I h) fun u s1 ⟨gn, x, H1, I1, rx, a, C, dx, fs, v, ex, ea, c, n, l, q⟩ => ?_)
  subst ex
  obtain rfl : u = Value.ref a := rx
  exact getattr_g I1 ea c n l fun u' t I2 ru => ⟨gn, v, H1, I2, ru, q⟩
def rLof (K : PySem.W.Frag) : List V → Hp → VK → Prop := fun xs H Q => ∃ p ys, xs = [.ref p] ∧ (SqL K H p ys ∨ SqT K H p ys) ∧ ∀ l, H l = none → Q (.ref l) (upd H l (.lst ys))
/-- list(e) -/
theorem pg_listOf (hg : Gl X x) (hm : X.mg x = none) (hv : bootBuiltins x = some (.type "list")) (ha : PEg X e ta) (hn : x ≠ "__name__" := by decide) (hdb : (x == ("__debug__" : Str)) = false := by decide)
    (he : starEach [e] X.env = (false, eval e X.env) :: starEach [] X.env := by rfl) (hpl : (backTo pos (starEach ([] : List Expr) X.env)).any (·.1) = false := by rfl) : PEg X (.Call (.Name x p) [e] [] pos) (tCB (rLof X.K) (tCons ta tNil)) := by
  refine ⟨fun pins s σ H Q I h => ?_⟩
  refine wpAny_Call_Name_kw (ld_blt I hg hm hv ?_ hn hdb)
  have args : wpAny (model X.prog X.w) X.A (spliced (backTo pos (starEach [e] X.env))) (fun us s1 => s1.gens = s.gens ∧ AP X pins σ (fun vs H1 => rLof X.K vs H1 Q) us s1) X.xe s := by
    rw [he]
    show wpAny _ _ (spliced ((false, eval e X.env) :: backTo pos (starEach [] X.env))) _ _ s
    refine Calls.spliced_cons (thn (ha.run pins s σ H _ I h) fun u s1 ⟨gn, x, H1, I1, r1, q1⟩ => ?_)
    exact Calls.spliced_nil ⟨gn, [x], H1, I1, .cons r1 .nil, q1⟩
  refine PyProof.Rows.callWith_type1 (thn args fun us s1 ⟨gn, vs, H1, I1, r1, pq, ys, ev, hq, q⟩ => ?_) he hpl
  subst ev
  obtain ⟨u, rfl, rx⟩ := vals1 r1
  cases rx
  have fin : ∀ (its : List Value), Vals ys its → ys.length ≤ sizeLine → ∀ (h' : Heap) (c' : Nat), (∀ b o', s1.heap.get? b = some o' → h'.get? b = some o') →
      h'.get? s1.heap.objs.size = some { cls := .type "list", dict := none, data := .seq its.toArray c', slots := #[] } → (fun u s' => s'.gens = s.gens ∧ EP X pins σ Q u s') (.ref s1.heap.objs.size) { s1 with heap := h' } := fun its r' hz h' c' kp e =>
    ⟨gn, .ref s1.heap.objs.size, _, I1.laid (t' := s1.toks) kp (Nat.le_refl _) (show ObjOk X.prog X.w _ h' _ (.lst ys) from ⟨hz, its, c', r', e⟩), rfl, q _ (I1.hok.fresh (Nat.le_refl _))⟩
  rcases hq with hq | hq
  · obtain ⟨its, r', pl, hz⟩ := I1.list hq
    have hlen := r'.length
    obtain ⟨o, ho, hc, n, hd⟩ := pl.isList
    exact call_list_seq pq (.inl rfl) ho hc hd (fun h' c' kp e => fin its r' hz h' c' kp e) (by simp only [List.size_toArray] <;> omega)
  · obtain ⟨its, r', pl, hz⟩ := I1.tuple hq
    have hlen := r'.length
    obtain ⟨o, ho, hc, n, hd⟩ := pl
    exact call_list_seq pq (.inr rfl) ho hc hd (fun h' c' kp e => fin its r' hz h' c' kp e) (by simp only [List.size_toArray] <;> omega)
end
/-- a def that makes and wakes no generator, and raises nothing -/
structure FnOkN (P : Program) (w : World) (K : PySem.W.Frag) (mg : Str → Option Value) (base : Heap) (k : Nat) (f : Addr) (fd : FuncData) (ps : List Str) (sp : Sp) : Prop where
  len : ∀ vs H Q E, sp vs H Q E → vs.length = ps.length
  run : ∀ (A : Around) (outer : List Env) (s : Shared) (H : Hp) (args : Args) (us : List Value) (vs : List V) (Q : VK) (E : XK), Room k A → Env0 P w K mg base A outer s H → BindsTo s fd args (ps.zip us) → Vals vs us → sp vs H Q E →
    codeAny (model P w) A (.call (.ref f) args) (fun r s' => s'.gens = s.gens ∧ CR CX0 outer P w H s Q E r s') s
theorem fnn_ret {P : Program} {w : World} {K : PySem.W.Frag} {mg : Str → Option Value} {base : Heap} {k : Nat} {f : Addr} {name qual : Str} {params : Arguments} {e : Expr} {pos : Pos} {scope : Scope} {dV kV doc pm cdv ct oc : Value} {an od : Option Addr}
    {osl : Array (Option Value)} {N ps : List Str} {sp : Sp} (lk : K.lookup f = some ⟨oc, od, .func (PySem.W.fnOf name qual params [.Return (some e) pos] scope dV kV doc pm an cdv ct), osl⟩) (hcd : PySem.W.codeIn K cdv qual = true) (S : FnScope N ps scope)
    (len : ∀ vs H Q E, sp vs H Q E → vs.length = ps.length)
    (hbody : ∀ (A : Around) (outer : List Env) (s : Shared) (H : Hp) (vs : List V) (Q : VK) (E : XK), Room k (A.deeper (envOfC qual scope s.heap.objs.size f cdv)) → sp vs H Q E →
      ∃ te, PEg (cxOf CX0 P w K mg base N qual scope f cdv A outer s H E).nox e te ∧ te (start N vs) H Q) :
    FnOkN P w K mg base (k + 1) f (PySem.W.fnOf name qual params [.Return (some e) pos] scope dV kV doc pm an cdv ct) ps sp := by
  refine ⟨len, fun A outer s H args us vs Q E hr e0 hb r hsp => ?_⟩
  have hl := len _ _ _ _ hsp
  have KX : K.In s.heap := e0.mod.kin.keeps fun b o e => (e0.bs b o e).1
  have lim : s.heap.NoLimit := e0.mod.nolimit.keeps fun b o e => (e0.bs b o e).1
  have hkind : ∀ y ∈ ps.zip us, scope.names.lookup y.1 = some .local ∨ (scope.names.lookup y.1 = some .cell ∧ ((cellsFrom (s.heap.objs.size + 1) scope.names []).lookup y.1).isSome = true) := fun ⟨n, v⟩ hy => by
    rcases S.par n (List.of_mem_zip hy).1 with q | q
    · exact .inl q
    · exact .inr ⟨q, PySem.W.cellsFrom_some _ _ _ (.inl q)⟩
  refine codeAny_call_function hr.depth (KX _ _ lk) rfl S.co S.gen rfl (PySem.W.codeRec_of KX hcd) (hb _ _ _ _ ?_)
  refine wpAny_newFunctionEnv_cells S.kind hkind fun env he s1 x => ?_
  subst he
  refine ⟨lim.keeps x.toInCall.keep, codeAny_func ?_⟩
  obtain ⟨te, ht, hq⟩ := hbody A outer s H vs Q E (hr.deeper _) hsp
  have I : Inv (cxOf CX0 P w K mg base N qual scope f cdv A outer s H E) [] (start N vs) H s1 := inv_start S hr.hd e0 hl r x
  have g1 : s1.gens = s.gens := by
    obtain ⟨h1, tk, rfl, hk⟩ := x.done
    rfl
  refine wpAny_execs_cons (wpAny_Return_some (wpAny_mono (ht.run [] s1 (start N vs) H _ (I.wish _) hq) (fun u s' ⟨gn, v, H', J, rv, q⟩ => ?_) fun e s' hs => False.elim hs))
  exact ⟨gn.trans g1, v, H', J.os, J.bare, J.base, J.hok, rv, q⟩
section
variable {X : Cx} {e o : Expr} {es : List Expr} {f x m : Str} {pos p apos : Pos} {ta : TE} {k : Nat} {C g : Addr} {fd : FuncData} {ps : List Str} {sp : Sp} {E : XK}
theorem run_fnn {pins : List (Addr × Obj)} {σ : St} {H : Hp} {s : Shared} {Q : VK} {us : List Value} {vs : List V} (F : FnOkN X.prog X.w X.K X.mg X.base k g fd ps sp) (hr : Room k X.A) (hb : Binds X.K fd ps [])
    (I : Inv X pins σ H s) (r : Vals vs us) (h : sp vs H Q E) : wpAny (model X.prog X.w) X.A (call (.ref g) us) (fun u s' => s'.gens = s.gens ∧ EP X pins σ Q u s') X.xe s := by
  have hl : (us ++ ([] : List Value)).length = ps.length := by rw [List.append_nil, ← r.length]; exact F.len _ _ _ _ h
  have b2 := hb s us I.kIn hl
  rw [List.append_nil] at b2
  refine wpAny_call (codeAny_mono (F.run X.A X.stack s H ⟨us, []⟩ us vs Q E hr I.env0 b2 r h) fun r s' hq => ?_)
  cases r with
  | error e => exact hq.2.elim
  | ok fl =>
    cases fl with
    | ret u => exact ⟨hq.1, I.after hq.2⟩
    | next => exact False.elim hq.2
    | brk => exact False.elim hq.2
    | cont => exact False.elim hq.2
/-- o.m() -/
theorem pg_meth0 {pl : Sem Bool} (he : PEg X o ta) (c : Cls X.K C) (hm : Meth X.K C m g) (F : FnOkN X.prog X.w X.K X.mg X.base k g fd ps sp) (hr : Room k X.A) (hb : Binds X.K fd ps [])
    (ht : eval (.Call (.Attribute o m apos) [] [] pos) X.env = (do
      let ov ← eval o X.env
      standAt apos.atName
      let (f, first) ← holding [ov] (getMethod ov m pl)
      callWith pos f first (backTo pos (starEach [] X.env)) (backToKw pos (keywordEach [] X.env))) := by rfl) :
    PEg X (.Call (.Attribute o m apos) [] [] pos) (tMeth C m sp [] E ta tNil) := by
  refine ⟨fun pins s σ H Q I h => ?_⟩
  refine PySem.W.methodCall_KW (pl := pl) (thn (he.run pins s σ H _ I h) fun u s1 ⟨gn, x, H1, I1, rx, a, dx, fs, ex, ea, l, q⟩ => ?_) ht
  subst ex
  obtain rfl : u = Value.ref a := rx
  refine getmeth_ok I1 ea c hm l ?_
  exact PySem.W.callWith_K0 (first := [.ref a]) I1.kIn hm.kp (thn (run_fnn (us := [.ref a]) (vs := [.ref a]) F hr hb I1 (.cons rfl .nil) q) fun u s2 z => ⟨z.1.trans gn, z.2⟩)
end
end L2

/-! U1 -/
/-! ### a row's own operators -/
namespace Rw
open PySem PySem.Spec PyProof.Rows L2
def oddI : List String := ["NoneType", "str", "tuple", "list", "dict"]
/-- whether a value is an index below m -/
inductive IxV (K : PySem.W.Frag) (H : Hp) (m : Int) : V → Bool → Prop
  | int (i : Int) : IxV K H m (.int i) (decide (0 ≤ i) && decide (i < m))
  | bl (b : Bool) : IxV K H m (.bl b) false
  | other {v : V} {T : String} : TyX K H v (.type T) → T ∈ oddI → IxV K H m v false
theorem IxV.same {K : PySem.W.Frag} {H H' : Hp} (e : Same H H') {m : Int} {v : V} {b : Bool} (h : IxV K H m v b) : IxV K H' m v b := by
  cases h with
  | int i => exact .int i
  | bl b => exact .bl b
  | other t m => exact .other (TyX_same e t) m
def spIx (K : PySem.W.Frag) : Sp := fun vs H Q _ => ∃ (v : V) (m : Int) (b : Bool), vs = [v, .int m] ∧ IxV K H m v b ∧ Q (.bl b) H
def spGR (K : PySem.W.Frag) : Sp := fun vs H Q _ => ∃ (a : Addr) (xs : List V) (ss : List Step), vs = [.ref a] ∧ SqT K H a xs ∧ StepsAt K H xs ss ∧ (∀ s ∈ ss, GoodS s) ∧ ss.length ≤ 800 ∧ ∀ H', Same H H' → Q (.bl (!(wrongs ss [] []).any id)) H'
def spCNm (K : PySem.W.Frag) (CN : Addr) : Sp := fun vs H Q E => ∃ (v : V) (m : Int) (b : Bool), vs = [v, .int m] ∧ IxV K H (m + 1) v b ∧ (b = true → Q .non H) ∧ (b = false → ∀ t H', Left H "value" v t H' → E (.ref CN) (some t) H')
def spCPr (K : PySem.W.Frag) (CN : Addr) : Sp := fun vs H Q E => ∃ (v u : V) (b c : Bool), vs = [v, u] ∧ IxV K H 1001 v b ∧ IxV K H 1001 u c ∧ (b = true → c = true → Q .non H) ∧ (b = false → ∀ t H', Left H "value" v t H' → E (.ref CN) (some t) H') ∧
  (b = true → c = false → ∀ t H', Left H "value" u t H' → E (.ref CN) (some t) H')
def spCLg (K : PySem.W.Frag) (CN : Addr) : Sp := fun vs H Q E => ∃ (v : V) (b : Bool), vs = [v] ∧ IxV K H 7 v b ∧ (b = true → Q .non H) ∧ (b = false → ∀ t H', Left H "value" v t H' → E (.ref CN) (some t) H')
abbrev noLst : List String := ["NoneType", "bool", "int", "str", "dict", "tuple"]
def stkB (rs : List (Option Step)) : Bool := decide (1 ≤ rs.length) && decide (rs.length ≤ 6) && (rs.all Option.isSome && decide ((rs.filterMap id).Nodup))
/-- any value, and whether it is a stock -/
inductive StkV (K : PySem.W.Frag) (d : Addr) (H : Hp) : V → Bool → Prop
  | other {v : V} {T : String} : TyX K H v (.type T) → T ∈ noLst → StkV K d H v false
  | lst {a : Addr} {xs : List V} {rs : List (Option Step)} : SqL K H a xs → All2 (SVG K d H) xs rs → rs.length ≤ 800 → StkV K d H (.ref a) (stkB rs)
theorem tyx_lst {K : PySem.W.Frag} {H : Hp} {p : Addr} {xs : List V} (h : SqL K H p xs) : TyX K H (.ref p) (.type "list") := by
  rcases h with (h | ⟨o, h⟩) | ⟨o, its, n, hl, hc, r⟩
  · exact .base (.lst h)
  · exact .base (.frz h)
  · exact .kList hl hc
theorem StkV.same {K : PySem.W.Frag} {d : Addr} {H H' : Hp} (e : Same H H') {v : V} {b : Bool} (h : StkV K d H v b) : StkV K d H' v b := by
  cases h with
  | other a b => exact .other (TyX_same e a) b
  | lst a b c => exact .lst (e.seq a) (b.mono fun _ _ t => t.same e) c
def spIS (K : PySem.W.Frag) (d : Addr) : Sp := fun vs H Q _ => ∃ (v : V) (b : Bool), vs = [v] ∧ StkV K d H v b ∧ ∀ H', Same H H' → Q (.bl b) H'
def spCS (K : PySem.W.Frag) (d CS : Addr) : Sp := fun vs H Q E => ∃ (v : V) (b : Bool), vs = [v] ∧ StkV K d H v b ∧ (b = true → ∀ H', Same H H' → Q .non H') ∧ (b = false → ∀ t H', Left H "value" v t H' → E (.ref CS) (some t) H')
theorem inV_bl (b : Bool) : ∀ bs : List Bool, inV (.bl b) (bs.map V.bl) = bs.any (· == b)
  | [] => rfl
  | c :: bs => by
    have e : inV (.bl b) ((c :: bs).map V.bl) = ((c == b) || inV (.bl b) (bs.map V.bl)) := rfl
    rw [e, inV_bl b bs]
    rfl
theorem flat_bl : ∀ bs : List Bool, (bs.map V.bl).all flatV = true
  | [] => rfl
  | b :: bs => by
    show (flatV (.bl b) && (bs.map V.bl).all flatV) = true
    rw [flat_bl bs]; rfl
theorem any_true (bs : List Bool) : bs.any (· == true) = bs.any id := by
  induction bs with
  | nil => rfl
  | cons b bs ih => rw [List.any_cons, List.any_cons, ih]; cases b <;> rfl
section
variable {P : Program} {w : World} {K : PySem.W.Frag} {mg : Str → Option Value} {base : Heap}
abbrev sIxF : Stmt := top 9
theorem scIxF : FnScope ["value", "many"] ["value", "many"] (defScope sIxF) := ⟨rfl, rfl, rfl, by decide +kernel, rfl, by decide +kernel, by decide +kernel⟩
theorem ok_ix {f : Addr} {fd : FuncData} (F : Fun K "is_index" "is_index" sIxF f fd) (m_isinstance : mg "isinstance" = none) (m_int : mg "int" = none) (m_bool : mg "bool" = none) : FnOk P w K mg base CX0 1 f fd ["value", "many"] (spIx K) := by
  refine F.ok scIxF (fun vs H Q E h => ?_) (fun cdv A outer s H vs Q E hr h => ?_)
  · obtain ⟨v, m, b, rfl, _⟩ := h
    rfl
  · obtain ⟨v, m, b, rfl, hv, q⟩ := h
    refine ⟨_, (pss_one (ps_ret (pe_and (pe_callB (call_isiKK (K := K) rfl) (by rfl) m_isinstance (by decide +kernel) (pa_cons (pv 0) (pa_cons (pe_bltn (v := .ty "int") (by rfl) m_int (by decide +kernel) rfl) pa_nil))) (pe_and (pe_not (pe_callB (call_isiKK (K := K) rfl) (by rfl) m_isinstance (by decide +kernel) (pa_cons (pv 0) (pa_cons (pe_bltn (v := .ty "bool") (by rfl) m_bool (by decide +kernel) rfl) pa_nil)))) (pe_one (pe_chain op_le op_lt pe_int (pv 0) (pv 1))))))), ?_⟩
    cases hv with
    | int i =>
      have k1 : PySem.W.kitOne K (.type "int") (.type "int") = some true := kit_ty (by decide +kernel)
      have k2 : PySem.W.kitOne K (.type "int") (.type "bool") = some false := kit_ty (by decide +kernel)
      refine ⟨_, rfl, _, _, _, _, _, rfl, .ty _, .base (.int i), k1, _, rfl, ?_⟩
      refine iteT ?_
      refine ⟨_, rfl, _, _, _, _, _, rfl, .ty _, .base (.int i), k2, _, rfl, ?_⟩
      refine ⟨_, rfl, ?_⟩
      refine iteT ⟨_, rfl, (0 : Int), i, rfl, rfl, _, rfl, ?_⟩
      by_cases h0 : 0 ≤ i
      · rw [decide_eq_true h0] at q ⊢
        exact iteT ⟨_, rfl, i, m, rfl, rfl, q⟩
      · rw [decide_eq_false h0] at q ⊢
        exact iteF q
    | bl b =>
      have k1 : PySem.W.kitOne K (.type "bool") (.type "int") = some true := kit_ty (by decide +kernel)
      have k2 : PySem.W.kitOne K (.type "bool") (.type "bool") = some true := kit_ty (by decide +kernel)
      refine ⟨_, rfl, _, _, _, _, _, rfl, .ty _, .base (.bl b), k1, _, rfl, ?_⟩
      refine iteT ?_
      refine ⟨_, rfl, _, _, _, _, _, rfl, .ty _, .base (.bl b), k2, _, rfl, ?_⟩
      exact ⟨_, rfl, iteF q⟩
    | @other v T ty hT =>
      have kt : PySem.W.kitOne K (.type T) (.type "int") = some false := by
        simp only [oddI, List.mem_cons, List.mem_nil_iff, or_false] at hT
        rcases hT with rfl | rfl | rfl | rfl | rfl <;> exact kit_ty (by decide +kernel)
      refine ⟨_, rfl, _, _, _, _, _, rfl, .ty _, ty, kt, _, rfl, ?_⟩
      exact iteF q
abbrev sINum : Stmt := inClass (top 5) 0
theorem scINum : FnScope ["self", "value"] ["self", "value"] (defScope sINum) := ⟨rfl, rfl, rfl, by decide +kernel, rfl, by decide +kernel, by decide +kernel⟩
theorem ok_INum {f : Addr} {fd : FuncData} (F : Fun K "__init__" "InvalidNumber.__init__" sINum f fd) : FnOk P w K mg base CX0 1 f fd ["self", "value"] (spR1 K "value") := by
  refine F.ok scINum (fun vs H Q E h => ?_) (fun cdv A outer s H vs Q E hr h => ?_)
  · obtain ⟨a, C, fI, v, rfl, _⟩ := h
    rfl
  · obtain ⟨a, C, fI, v, rfl, T, hn, ea, q⟩ := h
    refine ⟨_, pss_one (ps_ostG (pv 0) (pv 1)), ?_⟩
    refine ⟨_, rfl, _, rfl, a, C, fI, rfl, T, hn, .inl ⟨ea, fun dx n ne => ?_⟩⟩
    refine q _ dx (fun b o hb e => ?_) upd_same (by rw [upd_ne ne, upd_same]) n ne
    rw [upd_ne hb, upd_ne (ne_of_none e n)]
    exact e

abbrev sIStk : Stmt := inClass (top 4) 0
theorem scIStk : FnScope ["self", "value"] ["self", "value"] (defScope sIStk) := ⟨rfl, rfl, rfl, by decide +kernel, rfl, by decide +kernel, by decide +kernel⟩
theorem ok_IStk {f : Addr} {fd : FuncData} (F : Fun K "__init__" "InvalidStock.__init__" sIStk f fd) : FnOk P w K mg base CX0 1 f fd ["self", "value"] (spR1 K "value") := by
  refine F.ok scIStk (fun vs H Q E h => ?_) (fun cdv A outer s H vs Q E hr h => ?_)
  · obtain ⟨a, C, fI, v, rfl, _⟩ := h
    rfl
  · obtain ⟨a, C, fI, v, rfl, T, hn, ea, q⟩ := h
    refine ⟨_, pss_one (ps_ostG (pv 0) (pv 1)), ?_⟩
    refine ⟨_, rfl, _, rfl, a, C, fI, rfl, T, hn, .inl ⟨ea, fun dx n ne => ?_⟩⟩
    refine q _ dx (fun b o hb e => ?_) upd_same (by rw [upd_ne ne, upd_same]) n ne
    rw [upd_ne hb, upd_ne (ne_of_none e n)]
    exact e
abbrev sGR : Stmt := top 22
theorem scGR : FnScope ["steps"] ["steps"] (defScope sGR) := ⟨rfl, rfl, rfl, by decide +kernel, rfl, by decide +kernel, by decide +kernel⟩
theorem ok_gr {f fW : Addr} {fd fdW : FuncData} (F : Fun K "gives_right" "gives_right" sGR f fd) (GW : FnOk P w K mg base CX0 2 fW fdW ["items", "around"] (spWL K)) (TW : Called K mg "wrong_locks" ["items", "around"] fW fdW) : FnOk P w K mg base CX0 3 f fd ["steps"] (spGR K) := by
  refine F.ok scGR (fun vs H Q E h => ?_) (fun cdv A outer s H vs Q E hr h => ?_)
  · obtain ⟨a, xs, ss, rfl, _⟩ := h
    rfl
  · obtain ⟨a, xs, ss, rfl, hx, hs, hg, hz, q⟩ := h
    refine ⟨_, (pss_one (ps_ret (pe_cmpR (op_notIn_seqKK (K := K) rfl) pe_bl (pe_call GW (hr.mono (by first | decide | omega)) rfl TW.1 TW.2.1 TW.2.2 .nil pass0 (pa_cons (pv 0) (pa_cons (pe_tup pa_nil) pa_nil))) (by rfl)))), ?_⟩
    refine ⟨_, rfl, Nat.zero_le _, fun z nz => ?_⟩
    have s1 := same_upd (o := HO.tup []) nz
    refine ⟨a, .ref z, xs, ss, [], rfl, s1.tupS hx, hs.same s1, hg, ⟨z, rfl, SqT.of upd_same⟩, by rw [List.length_nil]; omega, fun H3 p s2 _ hp => ?_⟩
    refine ⟨p, _, rfl, .inl (SqL.of hp), rfl, flat_bl _, ?_⟩
    show Q (.bl (!inV (.bl true) ((wrongs ss [] []).map V.bl))) H3
    rw [inV_bl, any_true]
    exact q _ (s1.trans s2)
abbrev sCNm : Stmt := top 31
theorem scCNm : FnScope ["value", "most"] ["value", "most"] (defScope sCNm) := ⟨rfl, rfl, rfl, by decide +kernel, rfl, by decide +kernel, by decide +kernel⟩
theorem ok_cnm {f fX CN fE : Addr} {fd fdX fdE : FuncData} (F : Fun K "check_number" "check_number" sCNm f fd) (GX : FnOk P w K mg base CX0 1 fX fdX ["value", "many"] (spIx K)) (TX : Called K mg "is_index" ["value", "many"] fX fdX) (T : Er P w K mg base "InvalidNumber" "value" CN fE fdE) :
    FnOk P w K mg base (L2.CX P w) 3 f fd ["value", "most"] (spCNm K CN) := by
  refine F.okX scCNm (fun vs H Q E h => ?_) (fun cdv A outer s H vs Q E hr h => ?_)
  · obtain ⟨v, m, b, rfl, _⟩ := h
    rfl
  · obtain ⟨v, m, b, rfl, hv, q, qE⟩ := h
    refine ⟨_, (pss_one (ps_if (pt_not (pt_val (pe_call GX (hr.mono (by first | decide | omega)) rfl TX.1 TX.2.1 TX.2.2 .nil pass0 (pa_cons (pv 0) (pa_cons (pe_op op_add (pv 1) pe_int) pa_nil)))))
       (pss_one (ps_raise rfl (takes_of rfl rfl rfl rfl) (pmk_G T.o T.F (hr.mono (by decide)) T.b pass0 rfl T.g (pa_cons (pv 0) pa_nil))))
       pss_nil)), ?_⟩
    refine ⟨_, rfl, _, rfl, _, _, rfl, rfl, _, _, b, rfl, hv, ?_⟩
    refine ⟨_, rfl, ?_⟩
    cases b with
    | true => exact iteF (q rfl)
    | false => exact iteT ⟨_, rfl, Nat.le_of_ble_eq_true rfl, fun e ne => raise1 T.o T.no ne fun t H' l => qE rfl t H' l⟩
abbrev sCPr : Stmt := top 32
theorem scCPr : FnScope ["wait", "plain"] ["wait", "plain"] (defScope sCPr) := ⟨rfl, rfl, rfl, by decide +kernel, rfl, by decide +kernel, by decide +kernel⟩
theorem ok_cpr {f fC CN : Addr} {fd fdC : FuncData} {tk : Tok} (F : Fun K "check_prices" "check_prices" sCPr f fd) (GC : FnOk P w K mg base (L2.CX P w) 3 fC fdC ["value", "most"] (spCNm K CN)) (TC : Called K mg "check_number" ["value", "most"] fC fdC) (mMP : mg "MOST_PRICE" = some (.int 1000 tk)) :
    FnOk P w K mg base (L2.CX P w) 4 f fd ["wait", "plain"] (spCPr K CN) := by
  refine F.okX scCPr (fun vs H Q E h => ?_) (fun cdv A outer s H vs Q E hr h => ?_)
  · obtain ⟨v, u, b, c, rfl, _⟩ := h
    rfl
  · obtain ⟨v, u, b, c, rfl, hv, hu, q, q1, q2⟩ := h
    refine ⟨_, (pss_cons (ps_expr (pe_call GC (hr.mono (by decide)) rfl TC.1 TC.2.1 TC.2.2 .nil passX (pa_cons (pv 0) (pa_cons (pe_glob (v := .int 1000) rfl mMP ⟨_, rfl⟩) pa_nil))))
       (pss_one (ps_expr (pe_call GC (hr.mono (by decide)) rfl TC.1 TC.2.1 TC.2.2 .nil passX (pa_cons (pv 1) (pa_cons (pe_glob (v := .int 1000) rfl mMP ⟨_, rfl⟩) pa_nil)))))), ?_⟩
    refine ⟨_, rfl, _, _, b, rfl, hv, fun hb => ?_, fun hb t H' l => q1 hb t H' l⟩
    exact ⟨_, rfl, _, _, c, rfl, hu, fun hc => q hb hc, fun hc t H' l => q2 hb hc t H' l⟩
abbrev sCLg : Stmt := top 33
theorem scCLg : FnScope ["value"] ["value"] (defScope sCLg) := ⟨rfl, rfl, rfl, by decide +kernel, rfl, by decide +kernel, by decide +kernel⟩
theorem ok_clg {f fC CN : Addr} {fd fdC : FuncData} {tk : Tok} (F : Fun K "check_longest" "check_longest" sCLg f fd) (GC : FnOk P w K mg base (L2.CX P w) 3 fC fdC ["value", "most"] (spCNm K CN)) (TC : Called K mg "check_number" ["value", "most"] fC fdC) (mMS : mg "MOST_IN_STOCK" = some (.int 6 tk)) :
    FnOk P w K mg base (L2.CX P w) 4 f fd ["value"] (spCLg K CN) := by
  refine F.okX scCLg (fun vs H Q E h => ?_) (fun cdv A outer s H vs Q E hr h => ?_)
  · obtain ⟨v, b, rfl, _⟩ := h
    rfl
  · obtain ⟨v, b, rfl, hv, q, q1⟩ := h
    refine ⟨_, (pss_one (ps_expr (pe_call GC (hr.mono (by decide)) rfl TC.1 TC.2.1 TC.2.2 .nil passX (pa_cons (pv 0) (pa_cons (pe_glob (v := .int 6) rfl mMS ⟨_, rfl⟩) pa_nil))))), ?_⟩
    exact ⟨_, rfl, _, _, b, rfl, hv, fun hb => q hb, fun hb t H' l => q1 hb t H' l⟩
abbrev sISt : Stmt := top 29
theorem scISt : FnScope ["value", "step"] ["value"] (defScope sISt) := ⟨rfl, rfl, rfl, by decide +kernel, rfl, by decide +kernel, by decide +kernel⟩
theorem stk_all : ∀ rs : List (Option Step), rs.all Option.isSome = true → ∃ ss : List Step, rs = ss.map some
  | [], _ => ⟨[], rfl⟩
  | r :: rs, h => by
    rw [List.all_cons, Bool.and_eq_true] at h
    obtain ⟨ss, rfl⟩ := stk_all rs h.2
    cases r with
    | none => cases h.1
    | some s => exact ⟨s :: ss, rfl⟩
theorem all_isSome (rs : List (Option Step)) : (rs.map Option.isSome).all id = rs.all Option.isSome := by
  rw [List.all_map]; rfl
theorem fm_some (ss : List Step) : (ss.map some).filterMap id = ss := by rw [List.filterMap_map]; exact List.filterMap_some
theorem ok_ist {f fS d : Addr} {fd fdS : FuncData} {tk : Tok} (F : Fun K "is_stock" "is_stock" sISt f fd) (GS : FnOk P w K mg base CX0 2 fS fdS ["value"] (spStep K d)) (TS : Called K mg "is_step" ["value"] fS fdS) (mMS : mg "MOST_IN_STOCK" = some (.int 6 tk))
    (m_isinstance : mg "isinstance" = none) (m_list : mg "list" = none) (m_len : mg "len" = none) (m_all : mg "all" = none) (m_set : mg "set" = none) : FnOk P w K mg base CX0 3 f fd ["value"] (spIS K d) := by
  refine F.ok scISt (fun vs H Q E h => ?_) (fun cdv A outer s H vs Q E hr h => ?_)
  · obtain ⟨v, b, rfl, _⟩ := h
    rfl
  · obtain ⟨v, b, rfl, hv, q⟩ := h
    refine ⟨_, (pss_cons (ps_if (PW.pt (pw_or (pt_not (pt_val (pe_callB (call_isiKK (K := K) rfl) (by rfl) m_isinstance (by decide +kernel) (pa_cons (pv 0) (pa_cons (pe_bltn (v := .ty "list") (by rfl) m_list (by decide +kernel) rfl) pa_nil))))) (pw_or1 (pt_not (pt_chain op_le op_le pe_int (pe_callB (call_len_K (K := K) rfl) (by rfl) m_len PySem.boot_len (pa_cons (pv 0) pa_nil)) (pe_glob (v := .int 6) rfl mMS ⟨_, rfl⟩))))))
       (pss_one (ps_ret pe_bl))
       pss_nil)
       (pss_one (ps_ret (pe_and (pe_callB (cr_all rfl) (by rfl) m_all (by decide +kernel) (pa_cons (pe_lc (own := [("step", 1)]) (g := gName 1) (tt := tYes) (by rfl) scISt.nd (pi_list (pv 0)) (blkOk_by (own := [("step", 1)]) (N := ["value", "step"]) (sc := defScope sISt) (by decide +kernel)) (fun _ _ _ _ _ => (pg_name (i := 1) scISt.nd rfl (Or.inl rfl))) (fun _ _ _ _ _ => pts_nil) (fun _ _ _ _ _ => (pe_call GS (hr.mono (by first | decide | omega)) rfl TS.1 TS.2.1 TS.2.2 .nil pass0 (pa_cons (pv 1) pa_nil)))) pa_nil)) (pe_one (pe_cmpR op_eq (TG.pe_lenSetS (by rfl) m_len (by rfl) m_set (Nat.lt_of_succ_lt hr.units65) (pv 0)) (pe_callB (call_len_K (K := K) rfl) (by rfl) m_len PySem.boot_len (pa_cons (pv 0) pa_nil)) (nomark _))))))), ?_⟩
    cases hv with
    | @other _ T ty hT =>
      have kt : PySem.W.kitOne K (.type T) (.type "list") = some false := by
        simp only [noLst, List.mem_cons, List.mem_nil_iff, or_false] at hT
        rcases hT with rfl | rfl | rfl | rfl | rfl | rfl <;> exact kit_ty (by decide +kernel)
      exact ⟨_, rfl, _, _, _, _, _, rfl, .ty _, ty, kt, _, rfl, iteT (iteT (q H (Same.refl H)))⟩
    | @lst a xs rs hl hrs hz =>
      have kt : PySem.W.kitOne K (.type "list") (.type "list") = some true := kit_ty (by decide +kernel)
      have len := hrs.length
      refine ⟨_, rfl, _, _, _, _, _, rfl, .ty _, tyx_lst hl, kt, _, rfl, iteF ?_⟩
      refine ⟨_, rfl, a, xs, rfl, .inl hl, _, _, rfl, rfl, _, rfl, ?_⟩
      by_cases h1 : (1 : Int) ≤ (xs.length : Nat)
      · rw [decide_eq_true h1]
        refine iteT ⟨_, _, rfl, rfl, _, rfl, ?_⟩
        by_cases h2 : ((xs.length : Nat) : Int) ≤ 6
        · rw [decide_eq_true h2]
          refine iteF ?_
          refine ⟨_, rfl, a, rfl, ⟨_, hl⟩, fun D nD => lc_list (K := K) (a := a) (xs := xs) (fun i H' => Same H H' ∧ H' D = some (.lst (((rs.take i).map Option.isSome).map V.bl))) ⟨same_upd nD, upd_same⟩ (fun i H' _ z => z.1.seq hl) ?_ ?_⟩
          · rintro i x H1 hx ⟨s1, e1⟩
            obtain ⟨r, hr1, hv⟩ := hrs.get hx
            have hi : i < rs.length := (List.getElem?_eq_some_iff.mp hr1).1
            refine ⟨rfl, ?_⟩
            dsimp only [tYes]
            rw [if_pos rfl]
            refine ⟨_, rfl, x, r, rfl, hv.1.same s1, fun H2 s2 => ?_⟩
            refine ⟨_, s2 _ _ e1, ?_, same_updN nD (s1.trans s2), ?_⟩
            · rw [List.length_map, List.length_map, List.length_take, sizeLine_eq]
              omega
            · rw [upd_same, take_snoc hr1, List.map_append, List.map_append]
              rfl
          · rintro H1 ⟨s1, e1⟩
            rw [len, List.take_length] at e1
            refine ⟨D, _, rfl, .inl (.inl e1), ?_⟩
            rw [all_isSome]
            refine ⟨_, rfl, ?_⟩
            unfold stkB at q
            rw [decide_eq_true (show 1 ≤ rs.length by omega), decide_eq_true (show rs.length ≤ 6 by omega), Bool.true_and, Bool.true_and] at q
            cases ha : rs.all Option.isSome with
            | false =>
              rw [ha, Bool.false_and] at q
              exact iteF (q _ s1)
            | true =>
              rw [ha, Bool.true_and] at q
              refine iteT ?_
              obtain ⟨ss, rfl⟩ := stk_all rs ha
              rw [fm_some] at q
              rw [List.length_map] at len
              have hss : StepsAt K H xs ss := steps_of hrs
              refine ⟨_, rfl, a, xs, ss, rfl, s1.seq hl, hss.same s1, by omega, fun n n1 n2 => ?_⟩
              refine ⟨_, rfl, a, xs, rfl, .inl (s1.seq hl), rfl, ?_⟩
              have e : decide (V.int (n : Nat) = V.int (xs.length : Nat)) = decide ss.Nodup := by
                by_cases nd : ss.Nodup
                · rw [decide_eq_true nd, decide_eq_true]
                  rw [n1 nd, len]
                · rw [decide_eq_false nd, decide_eq_false]
                  intro z
                  have z := V.int.inj z
                  have := n2 nd
                  omega
              rw [e]
              exact q _ s1
        · rw [decide_eq_false h2]
          unfold stkB at q
          rw [decide_eq_false (show ¬ rs.length ≤ 6 by omega), Bool.and_false, Bool.false_and] at q
          exact iteT (q H (Same.refl H))
      · rw [decide_eq_false h1]
        unfold stkB at q
        rw [decide_eq_false (show ¬ 1 ≤ rs.length by omega), Bool.false_and, Bool.false_and] at q
        exact iteF ⟨_, rfl, iteT (q H (Same.refl H))⟩
abbrev sCSt : Stmt := top 30
theorem scCSt : FnScope ["value"] ["value"] (defScope sCSt) := ⟨rfl, rfl, rfl, by decide +kernel, rfl, by decide +kernel, by decide +kernel⟩
theorem ok_cst {f fI CS fE d : Addr} {fd fdI fdE : FuncData} (F : Fun K "check_stock" "check_stock" sCSt f fd) (GI : FnOk P w K mg base CX0 3 fI fdI ["value"] (spIS K d)) (TI : Called K mg "is_stock" ["value"] fI fdI) (T : Er P w K mg base "InvalidStock" "value" CS fE fdE) :
    FnOk P w K mg base (L2.CX P w) 4 f fd ["value"] (spCS K d CS) := by
  refine F.okX scCSt (fun vs H Q E h => ?_) (fun cdv A outer s H vs Q E hr h => ?_)
  · obtain ⟨v, b, rfl, _⟩ := h
    rfl
  · obtain ⟨v, b, rfl, hv, q, qE⟩ := h
    refine ⟨_, (pss_one (ps_if (pt_not (pt_val (pe_call GI (hr.mono (by first | decide | omega)) rfl TI.1 TI.2.1 TI.2.2 .nil pass0 (pa_cons (pv 0) pa_nil))))
       (pss_one (ps_raise rfl (takes_of rfl rfl rfl rfl) (pmk_G T.o T.F (hr.mono (by decide)) T.b pass0 rfl T.g (pa_cons (pv 0) pa_nil))))
       pss_nil)), ?_⟩
    refine ⟨_, rfl, v, b, rfl, hv, fun H1 s1 => ?_⟩
    refine ⟨_, rfl, ?_⟩
    cases b with
    | true => exact iteF (q rfl _ s1)
    | false => exact iteT ⟨_, rfl, Nat.le_of_ble_eq_true rfl, fun e ne => raise1 T.o T.no ne fun t H' l => qE rfl t H' (l.before s1)⟩
end
end Rw

/-! U2 -/
/-! ### comprehensions of two clauses -/
namespace L2
open PySem PySem.Spec PyProof.Rows
theorem op_catAK {X : Cx} {K : PySem.W.Frag} (hK : X.K = K) : OpR X (binaryOp .Add) (rCatA K) := by
  subst hK
  exact op_catA
/-- the outer clause, over a list that stays -/
theorem lc2_list {K : PySem.W.Frag} {a : Addr} {xs : List V} {g : TG} {tt : TT} {body : (Hp → Prop) → L2.St → Hp → Prop} {vs : List Nat} {σ : L2.St} {H1 : Hp} {D : Addr} {Qd : Hp → Prop} (Pv : Nat → Hp → Prop) (h0 : Pv 0 (upd H1 D (.lst []))) (hl : ∀ i H, i ≤ xs.length → Pv i H → SqL K H a xs)
    (hs : ∀ i x H, xs[i]? = some x → Pv i H → g x (wipe σ vs) H fun σ2 H2 => wipe σ2 vs = wipe σ vs ∧ tt σ2 H2 fun b H3 => if b = true then body (Pv (i + 1)) σ2 H3 else Pv (i + 1) H3) (hd : ∀ H, Pv xs.length H → Qd H) :
    ∃ W : Nat → Nat → Hp → Prop, (∃ m, W 0 m (upd H1 D (.lst []))) ∧ ∀ i m H, W i m H →
      ((Itl K a).stop i H ∧ Qd H) ∨ ((Itl K a).go i H ∧ ∃ Nx : Hp → Prop, (∀ H', Nx H' → ∃ m', m' < m ∧ W (i + 1) m' H') ∧ ∀ x H', (Itl K a).yld i H x H' → g x (wipe σ vs) H' fun σ2 H2 => wipe σ2 vs = wipe σ vs ∧ tt σ2 H2 fun b H3 =>
        if b = true then body Nx σ2 H3 else Nx H3) := by
  refine ⟨fun i m H => m = xs.length - i ∧ i ≤ xs.length ∧ Pv i H, ⟨xs.length, by simp, Nat.zero_le _, h0⟩, ?_⟩
  rintro i m H ⟨rfl, hi, p⟩
  have q := hl i H hi p
  by_cases hlt : i < xs.length
  · refine .inr ⟨⟨xs, xs[i], q, by simp [hlt]⟩, Pv (i + 1), fun H' p' => ⟨xs.length - (i + 1), by omega, rfl, hlt, p'⟩, fun x H' y => ?_⟩
    obtain ⟨e, y⟩ := y
    subst e
    exact hs i x _ (y xs q) p
  · have e : i = xs.length := by omega
    subst e
    exact .inl ⟨⟨xs, q, Nat.le_refl _⟩, hd H p⟩
/-- the inner clause, over a range -/
theorem lc2_range {lo : Int} {n : Nat} {g : TG} {tt : TT} {te : TE} {vs : List Nat} {σ : L2.St} {H4 : Hp} {D : Addr} {Nx : Hp → Prop} (Rv : Nat → Hp → Prop) (h0 : Rv 0 H4)
    (hs : ∀ j H, j < n → Rv j H → g (.int (lo + j)) (wipe σ vs) H fun σ2 H2 => wipe σ2 vs = wipe σ vs ∧ tt σ2 H2 fun b H3 =>
      if b = true then te σ2 H3 fun y H5 => ∃ acc, H5 D = some (.lst acc) ∧ acc.length < sizeLine ∧ Rv (j + 1) (upd H5 D (.lst (acc ++ [y]))) else Rv (j + 1) H3) (hd : ∀ H, Rv n H → Nx H) :
    ∃ W : Nat → Nat → Hp → Prop, (∃ m, W 0 m H4) ∧ ∀ j k H, W j k H →
      ((Itr lo n).stop j H ∧ Nx H) ∨ ((Itr lo n).go j H ∧ ∃ Nx1 : Hp → Prop, (∀ H', Nx1 H' → ∃ k', k' < k ∧ W (j + 1) k' H') ∧ ∀ x H', (Itr lo n).yld j H x H' → g x (wipe σ vs) H' fun σ2 H2 => wipe σ2 vs = wipe σ vs ∧ tt σ2 H2 fun b H3 =>
        if b = true then te σ2 H3 fun y H5 => ∃ acc, H5 D = some (.lst acc) ∧ acc.length < sizeLine ∧ Nx1 (upd H5 D (.lst (acc ++ [y]))) else Nx1 H3) := by
  refine ⟨fun j k H => k = n - j ∧ j ≤ n ∧ Rv j H, ⟨n, by simp, Nat.zero_le _, h0⟩, ?_⟩
  rintro j k H ⟨rfl, hj, p⟩
  by_cases hlt : j < n
  · refine .inr ⟨hlt, Rv (j + 1), fun H' p' => ⟨n - (j + 1), by omega, rfl, hlt, p'⟩, fun x H' y => ?_⟩
    obtain ⟨e, y⟩ := y
    subst e y
    exact hs j _ hlt p
  · have e : j = n := by omega
    subst e
    exact .inl ⟨Nat.le_refl _, hd H p⟩
end L2
/-! ### longer choices -/
namespace Rw
open PySem PySem.Spec PyProof.Rows L2
def natV (n : Nat) : V := .int (n : Int)
def ChT (K : PySem.W.Frag) (H : Hp) (v : V) (c : List Nat) : Prop := ∃ p, v = .ref p ∧ SqT K H p (c.map natV)
theorem ChT.same {K : PySem.W.Frag} {H H' : Hp} (e : Same H H') {v : V} {c : List Nat} (h : ChT K H v c) : ChT K H' v c := let ⟨p, e1, q⟩ := h; ⟨p, e1, e.tupS q⟩
theorem ChT.updL {K : PySem.W.Frag} {H : Hp} {l : Addr} {xs : List V} {u : HO} (hl : H l = some (.lst xs)) {v : V} {c : List Nat} (h : ChT K H v c) : ChT K (upd H l u) v c := let ⟨p, e, q⟩ := h; ⟨p, e, sqT_updL hl q⟩
def more1 (c : List Nat) (n : Nat) : List (List Nat) := ((List.range n).filter fun i => decide (i ∉ c)).map fun i => c ++ [i]
def longer (cs : List (List Nat)) (n : Nat) : List (List Nat) := cs.flatMap fun c => more1 c n
theorem more1_snoc (c : List Nat) (n : Nat) : more1 c (n + 1) = more1 c n ++ if n ∈ c then [] else [c ++ [n]] := by
  unfold more1
  rw [List.range_succ, List.filter_append, List.map_append]
  by_cases h : n ∈ c
  · rw [if_pos h, List.filter_cons_of_neg (by simpa using h)]; rfl
  · rw [if_neg h, List.filter_cons_of_pos (by simpa using h)]; rfl
theorem more1_len (c : List Nat) (n : Nat) : (more1 c n).length ≤ n := by
  unfold more1
  rw [List.length_map]
  exact Nat.le_trans (List.length_filter_le _ _) (by rw [List.length_range]; exact Nat.le_refl _)
theorem longer_snoc (cs : List (List Nat)) (c : List Nat) (n : Nat) : longer (cs ++ [c]) n = longer cs n ++ more1 c n := by
  unfold longer
  rw [List.flatMap_append]
  simp
theorem longer_len (n : Nat) : ∀ cs : List (List Nat), (longer cs n).length ≤ cs.length * n
  | [] => Nat.zero_le _
  | c :: cs => by
    have h := longer_len n cs
    have h2 := more1_len c n
    unfold longer at h ⊢
    rw [List.flatMap_cons, List.length_append, List.length_cons, Nat.add_mul, Nat.one_mul]
    omega
theorem inV_nat (n : Nat) : ∀ c : List Nat, inV (natV n) (c.map natV) = decide (n ∈ c)
  | [] => by rw [decide_eq_false (by simp)]; rfl
  | m :: c => by
    have e : inV (natV n) ((m :: c).map natV) = ((((m : Nat) : Int) == ((n : Nat) : Int)) || inV (natV n) (c.map natV)) := rfl
    rw [e, inV_nat n c]
    by_cases h : m = n
    · subst h
      rw [beq_self_eq_true, Bool.true_or, decide_eq_true List.mem_cons_self]
    · rw [beq_eq_false_iff_ne.mpr (by omega), Bool.false_or]
      by_cases h2 : n ∈ c
      · rw [decide_eq_true h2, decide_eq_true (List.mem_cons_of_mem _ h2)]
      · rw [decide_eq_false h2, decide_eq_false]
        intro z
        rcases List.mem_cons.mp z with z | z
        · exact h z.symm
        · exact h2 z
theorem flat_nat : ∀ c : List Nat, (c.map natV).all flatV = true
  | [] => rfl
  | n :: c => by
    show (flatV (natV n) && (c.map natV).all flatV) = true
    rw [flat_nat c]; rfl
def spLC (K : PySem.W.Frag) : Sp := fun vs H Q _ => ∃ (a : Addr) (m : Nat) (ys : List V) (cs : List (List Nat)), vs = [.ref a, natV m] ∧ SqL K H a ys ∧ All2 (ChT K H) ys cs ∧ m ≤ 6 ∧ cs.length ≤ 300000 ∧ (∀ c ∈ cs, c.length ≤ 8) ∧
  ∀ H' l zs, Same H H' → H l = none → H' l = some (.lst zs) → All2 (ChT K H') zs (longer cs m) → Q (.ref l) H'
section
variable {P : Program} {w : World} {K : PySem.W.Frag} {mg : Str → Option Value} {base : Heap}
abbrev sLC : Stmt := top 34
theorem scLC : FnScope ["choices", "many", "chosen", "index"] ["choices", "many"] (defScope sLC) := ⟨rfl, rfl, rfl, by decide +kernel, rfl, by decide +kernel, by decide +kernel⟩
theorem ok_lc {f : Addr} {fd : FuncData} (F : Fun K "longer_choices" "longer_choices" sLC f fd) (m_range : mg "range" = none) : FnOk P w K mg base CX0 1 f fd ["choices", "many"] (spLC K) := by
  refine F.ok scLC (fun vs H Q E h => ?_) (fun cdv A outer s H vs Q E hr h => ?_)
  · obtain ⟨a, m, ys, cs, rfl, _⟩ := h
    rfl
  · obtain ⟨a, m, ys, cs, rfl, hy, hc, hm, hz, hk, q⟩ := h
    refine ⟨_, (pss_one (ps_ret (pe_lc2 (own := [("chosen", 2), ("index", 3)]) (vs1 := [3]) (g := gName 2) (tt := tYes) (g1 := gName 3) rfl scLC.nd (pi_list (pv 0)) (blkOk_by (own := [("chosen", 2), ("index", 3)]) (N := ["choices", "many", "chosen", "index"]) (sc := defScope sLC) (by decide +kernel)) (by decide) (fun _ _ _ _ _ => pg_name (i := 2) scLC.nd rfl (Or.inl rfl)) (fun _ _ _ _ _ => pts_nil) (fun _ _ _ _ _ => pi_range1 rfl m_range (pa_cons (pv 1) pa_nil)) (fun _ _ _ _ _ => pg_name (i := 3) scLC.nd rfl (Or.inl rfl)) (fun _ _ _ _ _ => pts_one (pt_cmpR (op_notIn_seqKK (K := K) rfl) (pv 3) (pv 2) (by rfl))) (fun _ _ _ _ _ => (pe_op (op_catAK (K := K) rfl) (pv 2) (pe_tup (pa_cons (pv 3) pa_nil))))))), ?_⟩
    have len := hc.length
    refine ⟨_, rfl, a, rfl, ⟨_, hy⟩, fun D nD => lc2_list (K := K) (a := a) (xs := ys) (fun i H' => ∃ zs, Same H H' ∧ H' D = some (.lst zs) ∧ All2 (ChT K H') zs (longer (cs.take i) m))
      ⟨[], same_upd nD, upd_same, .nil⟩ (fun i H' _ ⟨zs, z, _⟩ => z.seq hy) ?_ ?_⟩
    · rintro i x H1 hx ⟨zs, s1, e1, hz1⟩
      obtain ⟨c, hc1, hv⟩ := hc.get hx
      have hi : i < cs.length := (List.getElem?_eq_some_iff.mp hc1).1
      have lz := hz1.length
      have ll := longer_len m (cs.take i)
      have bound : (longer (cs.take i) m).length ≤ 1800000 := by
        have e : (cs.take i).length ≤ 300000 := by rw [List.length_take]; omega
        exact Nat.le_trans ll (Nat.le_trans (Nat.mul_le_mul e hm) (by decide))
      refine ⟨rfl, ?_⟩
      dsimp only [tYes]
      rw [if_pos rfl]
      refine ⟨_, rfl, (m : Int), rfl, by omega, by omega, lc2_range (lo := 0) (n := m) (fun j H' => ∃ zs, Same H H' ∧ H' D = some (.lst zs) ∧ All2 (ChT K H') zs (longer (cs.take i) m ++ more1 c j))
        ⟨zs, s1, e1, by rw [show more1 c 0 = [] from rfl, List.append_nil]; exact hz1⟩ ?_ ?_⟩
      · rintro j H2 hj ⟨us, s2, e2, hu⟩
        have lu := hu.length
        have l3 := more1_len c j
        rw [List.length_append] at lu
        have ej : ((0 : Int) + (j : Nat)) = ((j : Nat) : Int) := by omega
        rw [ej]
        obtain ⟨p, rfl, hp⟩ := hv
        refine ⟨rfl, _, rfl, _, rfl, p, _, rfl, .inr (s2.tupS hp), rfl, flat_nat c, _, rfl, ?_⟩
        show if (!inV (natV j) (c.map natV)) = true then _ else _
        rw [inV_nat, more1_snoc]
        by_cases h : j ∈ c
        · rw [decide_eq_true h, if_pos h, List.append_nil]
          exact iteF ⟨us, s2, e2, hu⟩
        · rw [decide_eq_false h, if_neg h, ← List.append_assoc]
          refine iteT ⟨_, rfl, _, rfl, by show 1 ≤ sizeLine; decide, fun t nt => ?_⟩
          have s3 := same_upd (o := HO.tup [natV j]) nt
          have kc := hk c (List.mem_of_getElem? hc1)
          refine cat_any ((s2.trans s3).tupS hp) (SqT.of upd_same) (by rw [List.length_map]; show c.length + 1 ≤ 1000; omega) fun H4 u s4 hu4 => ?_
          have e4 := s4 _ _ (s3 _ _ e2)
          refine ⟨us, e4, by rw [sizeLine_eq]; omega, us ++ [.ref u], same_updN nD ((s2.trans s3).trans s4), upd_same, ?_⟩
          refine ((hu.mono fun _ _ t => (t.same (s3.trans s4)).updL e4)).append (.cons ⟨u, rfl, sqT_updL e4 ?_⟩ .nil)
          rw [List.map_append]
          exact hu4
      · rintro H2 ⟨us, s2, e2, hu⟩
        refine ⟨us, s2, e2, ?_⟩
        rw [take_snoc hc1, longer_snoc]
        exact hu
    · rintro H1 ⟨zs, s1, e1, hz1⟩
      rw [len, List.take_length] at hz1
      exact q H1 D zs s1 nD e1 hz1
end
end Rw

/-! U3 -/
/-! ### loops of a generator: the forms one uses -/
namespace L2
open PySem PySem.Spec PyProof.Rows GenW
theorem gfor_range {lo : Int} {n : Nat} {g : TG} {tb : TGg} {D : GE} {gh : Gh} {σ : L2.St} {H : Hp} (Pv : Nat → Gh → L2.St → Hp → Prop) (h0 : Pv 0 gh σ H)
    (hs : ∀ i gh σ H, i < n → Pv i gh σ H → g (.int (lo + i)) σ H fun σ2 H2 => tb { D with nx := Pv (i + 1), ct := Pv (i + 1), bk := D.nx } gh σ2 H2) (hd : ∀ gh σ H, Pv n gh σ H → D.nx gh σ H) :
    ∃ W : Nat → Nat → Gh → L2.St → Hp → Prop, (∃ m, W 0 m gh σ H) ∧ ∀ i m gh σ H, W i m gh σ H →
      ((Itr lo n).stop i H ∧ D.nx gh σ H) ∨ ((Itr lo n).go i H ∧ ∃ N : Gh → L2.St → Hp → Prop, (∀ gh' σ' H', N gh' σ' H' → ∃ m', m' < m ∧ W (i + 1) m' gh' σ' H') ∧ ∀ x H', (Itr lo n).yld i H x H' → g x σ H' fun σ2 H2 => tb { D with nx := N, ct := N, bk := D.nx } gh σ2 H2) := by
  refine ⟨fun i m gh σ H => m = n - i ∧ i ≤ n ∧ Pv i gh σ H, ⟨n, by simp, Nat.zero_le _, h0⟩, ?_⟩
  rintro i m gh σ H ⟨rfl, hi, p⟩
  by_cases hlt : i < n
  · refine .inr ⟨hlt, Pv (i + 1), fun gh' σ' H' p' => ⟨n - (i + 1), by omega, rfl, hlt, p'⟩, fun x H' y => ?_⟩
    obtain ⟨e, y⟩ := y
    subst e y
    exact hs i gh σ _ hlt p
  · have e : i = n := by omega
    subst e
    exact .inl ⟨Nat.le_refl _, hd gh σ H p⟩
theorem gfor_list {K : PySem.W.Frag} {a : Addr} {xs : List V} {g : TG} {tb : TGg} {D : GE} {gh : Gh} {σ : L2.St} {H : Hp} (Pv : Nat → Gh → L2.St → Hp → Prop) (h0 : Pv 0 gh σ H) (hl : ∀ i gh σ H, i ≤ xs.length → Pv i gh σ H → SqL K H a xs)
    (hs : ∀ i x gh σ H, xs[i]? = some x → Pv i gh σ H → g x σ H fun σ2 H2 => tb { D with nx := Pv (i + 1), ct := Pv (i + 1), bk := D.nx } gh σ2 H2) (hd : ∀ gh σ H, Pv xs.length gh σ H → D.nx gh σ H) :
    ∃ W : Nat → Nat → Gh → L2.St → Hp → Prop, (∃ m, W 0 m gh σ H) ∧ ∀ i m gh σ H, W i m gh σ H →
      ((Itl K a).stop i H ∧ D.nx gh σ H) ∨ ((Itl K a).go i H ∧ ∃ N : Gh → L2.St → Hp → Prop, (∀ gh' σ' H', N gh' σ' H' → ∃ m', m' < m ∧ W (i + 1) m' gh' σ' H') ∧ ∀ x H', (Itl K a).yld i H x H' → g x σ H' fun σ2 H2 => tb { D with nx := N, ct := N, bk := D.nx } gh σ2 H2) := by
  refine ⟨fun i m gh σ H => m = xs.length - i ∧ i ≤ xs.length ∧ Pv i gh σ H, ⟨xs.length, by simp, Nat.zero_le _, h0⟩, ?_⟩
  rintro i m gh σ H ⟨rfl, hi, p⟩
  have q := hl i gh σ H hi p
  by_cases hlt : i < xs.length
  · refine .inr ⟨⟨xs, xs[i], q, by simp [hlt]⟩, Pv (i + 1), fun gh' σ' H' p' => ⟨xs.length - (i + 1), by omega, rfl, hlt, p'⟩, fun x H' y => ?_⟩
    obtain ⟨e, y⟩ := y
    subst e
    exact hs i x gh σ _ (y xs q) p
  · have e : i = xs.length := by omega
    subst e
    exact .inl ⟨⟨xs, q, Nat.le_refl _⟩, hd gh σ H p⟩
end L2
/-! ### rows_of -/
namespace Rw
open PySem PySem.Spec PyProof.Rows L2 GenW
def lev (n : Nat) : Nat → List (List Nat)
  | 0 => [[]]
  | k + 1 => longer (lev n k) n
def tkn (ss : List Step) (c : List Nat) : List Step := c.filterMap fun i => ss[i]?
def goodR (t : List Step) : Bool := !(wrongs t [] []).any id
def rowsUp (ss : List Step) (k : Nat) : List (List Step) := (List.range k).flatMap fun j => ((lev ss.length j).map (tkn ss)).filter goodR
theorem rowsUp_succ (ss : List Step) (k : Nat) : rowsUp ss (k + 1) = rowsUp ss k ++ ((lev ss.length k).map (tkn ss)).filter goodR := by
  unfold rowsUp
  rw [List.range_succ, List.flatMap_append]
  simp
theorem lev_len (n : Nat) : ∀ k, (lev n k).length ≤ n ^ k
  | 0 => Nat.le_refl _
  | k + 1 => by
    have h := lev_len n k
    have h2 := longer_len n (lev n k)
    show (longer (lev n k) n).length ≤ n ^ (k + 1)
    rw [Nat.pow_succ]
    exact Nat.le_trans h2 (Nat.mul_le_mul_right n h)
theorem lev_mem (n : Nat) : ∀ k, ∀ c ∈ lev n k, c.length = k ∧ ∀ i ∈ c, i < n
  | 0, c, h => by
    obtain rfl : c = [] := by simpa [lev] using h
    exact ⟨rfl, fun i hi => by cases hi⟩
  | k + 1, c, h => by
    have h : c ∈ longer (lev n k) n := h
    unfold longer at h
    obtain ⟨b, hb, hc⟩ := List.mem_flatMap.mp h
    obtain ⟨i, hi, rfl⟩ := List.mem_map.mp hc
    obtain ⟨h1, h2⟩ := lev_mem n k b hb
    have hi2 : i < n := List.mem_range.mp (List.mem_filter.mp hi).1
    refine ⟨by rw [List.length_append, h1]; rfl, fun j hj => ?_⟩
    rcases List.mem_append.mp hj with hj | hj
    · exact h2 j hj
    · rw [List.mem_singleton.mp hj]; exact hi2
theorem lev_bound {n k : Nat} (hn : n ≤ 6) (hk : k ≤ 7) : (lev n k).length ≤ 279936 := by
  refine Nat.le_trans (lev_len n k) (Nat.le_trans (Nat.pow_le_pow_left hn k) ?_)
  exact Nat.le_trans (Nat.pow_le_pow_right (by decide) hk) (by decide)
theorem rowsUp_bound {ss : List Step} (hn : ss.length ≤ 6) : ∀ k, k ≤ 8 → (rowsUp ss k).length ≤ k * 279936
  | 0, _ => Nat.zero_le _
  | k + 1, h => by
    have ih := rowsUp_bound hn k (by omega)
    have b := lev_bound hn (show k ≤ 7 by omega)
    have f := List.length_filter_le goodR ((lev ss.length k).map (tkn ss))
    rw [List.length_map] at f
    rw [rowsUp_succ, List.length_append, Nat.add_mul]
    omega
theorem rowsUp_pre (ss : List Step) {i k : Nat} (h : i ≤ k) : ∃ r, rowsUp ss k = rowsUp ss i ++ r := by
  obtain ⟨d, rfl⟩ := Nat.le.dest h
  induction d with
  | zero => exact ⟨[], (List.append_nil _).symm⟩
  | succ d ih =>
    obtain ⟨r, e⟩ := ih (Nat.le_add_right _ _)
    refine ⟨r ++ ((lev ss.length (i + d)).map (tkn ss)).filter goodR, ?_⟩
    rw [← List.append_assoc, ← e]
    exact rowsUp_succ ss (i + d)
def part (ss : List Step) (i j : Nat) : List (List Step) := (((lev ss.length i).take j).map (tkn ss)).filter goodR
theorem part_zero (ss : List Step) (i : Nat) : part ss i 0 = [] := rfl
theorem part_all (ss : List Step) (i : Nat) : rowsUp ss (i + 1) = rowsUp ss i ++ part ss i (lev ss.length i).length := by
  rw [rowsUp_succ]
  unfold part
  rw [List.take_length]
theorem part_snoc {ss : List Step} {i j : Nat} {c : List Nat} (h : (lev ss.length i)[j]? = some c) : part ss i (j + 1) = part ss i j ++ if goodR (tkn ss c) = true then [tkn ss c] else [] := by
  unfold part
  rw [take_snoc h, List.map_append, List.filter_append]
  congr 1
  by_cases g : goodR (tkn ss c) = true
  · rw [if_pos g, List.map_cons, List.map_nil, List.filter_cons_of_pos g]; rfl
  · rw [if_neg g, List.map_cons, List.map_nil, List.filter_cons_of_neg g]; rfl
theorem part_bound {ss : List Step} (hn : ss.length ≤ 6) {i : Nat} (hi : i ≤ 7) (j : Nat) : (part ss i j).length ≤ 279936 := by
  unfold part
  refine Nat.le_trans (List.length_filter_le _ _) ?_
  rw [List.length_map, List.length_take]
  have := lev_bound hn hi
  omega
theorem at_mid {α : Type} (a : List α) (t : α) (c : List α) : (a ++ t :: c)[a.length]? = some t := by simp
theorem row_at {ss : List Step} {i j k : Nat} {c : List Nat} (hi : i < k) (h : (lev ss.length i)[j]? = some c) (g : goodR (tkn ss c) = true) : (rowsUp ss k)[(rowsUp ss i).length + (part ss i j).length]? = some (tkn ss c) := by
  obtain ⟨r, e⟩ := rowsUp_pre ss (show i + 1 ≤ k from hi)
  have e2 : rowsUp ss (i + 1) = rowsUp ss i ++ (part ss i (j + 1) ++ (((lev ss.length i).drop (j + 1)).map (tkn ss)).filter goodR) := by
    rw [rowsUp_succ]
    unfold part
    rw [← List.filter_append, ← List.map_append, List.take_append_drop]
  rw [part_snoc h, if_pos g] at e2
  rw [e, e2]
  have e3 : rowsUp ss i ++ (part ss i j ++ [tkn ss c] ++ (((lev ss.length i).drop (j + 1)).map (tkn ss)).filter goodR) ++ r = (rowsUp ss i ++ part ss i j) ++ tkn ss c :: ((((lev ss.length i).drop (j + 1)).map (tkn ss)).filter goodR ++ r) := by
    simp only [List.append_assoc, List.cons_append, List.nil_append]
  rw [e3, ← List.length_append]
  exact at_mid _ _ _
theorem fault_good {t : List Step} (h8 : t.length ≤ 8) (hg : goodR t = true) : fault (t.map some) = none := by
  have e0 : (t.map some).findIdx? Option.isNone = none := by
    rw [List.findIdx?_eq_none_iff]
    intro x hx
    obtain ⟨s', _, rfl⟩ := List.mem_map.mp hx
    rfl
  have e2 : (wrongs t [] []).findIdx? id = none := by
    rw [List.findIdx?_eq_none_iff]
    intro x hx
    unfold goodR at hg
    rw [Bool.not_eq_true', List.any_eq_false] at hg
    have z := hg x hx
    cases x with
    | false => rfl
    | true => exact absurd rfl z
  unfold fault
  rw [e0, fm_some, List.length_map, e2]
  simp only
  rw [if_neg (by omega)]
theorem tkn_at {K : PySem.W.Frag} {d : Addr} {H : Hp} {xs : List V} {ss : List Step} (h : RowAt K d H xs ss) : ∀ c : List Nat, (∀ i ∈ c, i < ss.length) → RowAt K d H (c.filterMap fun i => xs[i]?) (tkn ss c)
  | [], _ => .nil
  | i :: c, hc => by
    have hi := hc i List.mem_cons_self
    have hx : i < xs.length := by rw [h.length]; exact hi
    have e1 : xs[i]? = some xs[i] := List.getElem?_eq_getElem hx
    have e2 : ss[i]? = some ss[i] := List.getElem?_eq_getElem hi
    obtain ⟨s, hs, hv⟩ := h.get e1
    rw [e2] at hs; cases hs
    unfold tkn
    rw [List.filterMap_cons_some e1, List.filterMap_cons_some e2]
    exact .cons hv (tkn_at h c fun j hj => hc j (List.mem_cons_of_mem _ hj))
theorem tkn_len (ss : List Step) (c : List Nat) : (tkn ss c).length ≤ c.length := List.length_filterMap_le _ _
theorem row_steps {K : PySem.W.Frag} {d : Addr} {H : Hp} {xs : List V} {ss : List Step} (h : RowAt K d H xs ss) : StepsAt K H xs ss := steps_of (of_rowAt h)
theorem row_good {K : PySem.W.Frag} {d : Addr} {H : Hp} {xs : List V} {ss : List Step} (h : RowAt K d H xs ss) : ∀ s ∈ ss, GoodS s := good_of (of_rowAt h)
def spRows (K : PySem.W.Frag) (C d CS CN : Addr) : SpGs := fun vs H Cw Yw Q E => ∃ (v u : V) (b c : Bool), vs = [v, u] ∧ StkV K d H v b ∧ IxV K H 7 u c ∧
  (b = true → c = true → ∃ (a : Addr) (xs : List V) (ss : List Step) (L : Nat), v = .ref a ∧ SqL K H a xs ∧ RowAt K d H xs ss ∧ ss.length ≤ 6 ∧ u = natV L ∧ L ≤ 6 ∧ (∀ g H1 H2, Same H1 H2 → Cw g H1 → Cw g H2) ∧
    (∀ g H1 t p, Same H H1 → Cw g H1 → (rowsUp ss (L + 1))[g.1]? = some t → IsRow K C d H1 p t → Yw g (.ref p) H1) ∧ (∀ g H1, Same H H1 → Cw g H1 → g.1 = (rowsUp ss (L + 1)).length → Q g H1)) ∧
  (b = false → ∀ t H', Left H "value" v t H' → E (.ref CS) (some t) H') ∧ (b = true → c = false → ∀ t H', Left H "value" u t H' → E (.ref CN) (some t) H')
theorem passG {P : Program} {w : World} {K : PySem.W.Frag} {mg : Str → Option Value} {base : Heap} {N : List Str} {qual : Str} {scope : Scope} {f : Addr} {cd : Value} {A : Around} {outer : List Env} {s : Shared} {H : Hp} {pn : List (Addr × Obj)} :
    Passes (L2.CX P w) (gcxOf P w K mg base N qual scope f cd A outer s H noX pn) noX := passes_call takes_gcx fun _ _ _ _ h => h
theorem passE {P : Program} {w : World} {K : PySem.W.Frag} {mg : Str → Option Value} {base : Heap} {N : List Str} {qual : Str} {scope : Scope} {f : Addr} {cd : Value} {A : Around} {outer : List Env} {s : Shared} {H : Hp} {E : XK} {pn : List (Addr × Obj)} :
    Passes (L2.CX P w) (gcxOf P w K mg base N qual scope f cd A outer s H (exE E pn) pn) E := passes_call takesG fun _ _ _ _ h => h
section
variable {P : Program} {w : World} {K : PySem.W.Frag} {mg : Str → Option Value} {base : Heap}
theorem gcx_K {N : List Str} {qual : Str} {scope : Scope} {f : Addr} {cd : Value} {A : Around} {outer : List Env} {s : Shared} {H : Hp} {E : XK} {pn : List (Addr × Obj)} : (gcxOf P w K mg base N qual scope f cd A outer s H E pn).K = K := rfl
abbrev sRO : Stmt := top 35
theorem scRO : GScope ["stock", "longest", "steps", "choices", "_", "chosen", "taken", "index"] ["stock", "longest"] (defScope sRO) :=
  ⟨rfl, rfl, rfl, by decide +kernel, rfl, by decide +kernel, by decide +kernel⟩
theorem ok_rows {f fS fL fG fC C d CS CN CI fI fA fR : Addr} {fd fdS fdL fdG fdC : FuncData} (F : Fun K "rows_of" "rows_of" sRO f fd) (GS : FnOk P w K mg base (L2.CX P w) 4 fS fdS ["value"] (spCS K d CS)) (TS : Called K mg "check_stock" ["value"] fS fdS)
    (GL : FnOk P w K mg base (L2.CX P w) 4 fL fdL ["value"] (spCLg K CN)) (TL : Called K mg "check_longest" ["value"] fL fdL) (GGR : FnOk P w K mg base CX0 3 fG fdG ["steps"] (spGR K)) (TGR : Called K mg "gives_right" ["steps"] fG fdG)
    (GC : FnOk P w K mg base CX0 1 fC fdC ["choices", "many"] (spLC K)) (TC : Called K mg "longer_choices" ["choices", "many"] fC fdC) (R : RowC K mg C fI fA fR) (GI : FnR P w K mg base (L2.CX P w) 4 fI (spStar (spRI K d C CI)))
    (m_tuple : mg "tuple" = none) (m_range : mg "range" = none) (m_len : mg "len" = none) : GFns P w K mg base 6 f fd ["stock", "longest"] (spRows K C d CS CN) := by
  obtain ⟨oc, od, kV, doc, pm, an, cdv, ct, osl, rfl, lk, hcd⟩ := F.ex
  refine gfns_of ((defBody sRO).take 2) ((defBody sRO).drop 2) (List.take_append_drop 2 _).symm lk hcd scRO (fun vs H Cw Yw Q E h => ?_) fun A outer s H vs Cw Yw Q E hr h => ?_
  · obtain ⟨v, u, b, c, rfl, _⟩ := h
    rfl
  · obtain ⟨v, u, b, c, rfl, hv, hu, q, qS, qN⟩ := h
    have hpre : ∀ pn, PSs (gcxOf P w K mg base ["stock", "longest", "steps", "choices", "_", "chosen", "taken", "index"] "rows_of" (defScope sRO) f cdv A outer s H (exE E pn) pn) ((defBody sRO).take 2) _ := fun pn => (pss_cons (ps_expr (pe_call GS (hr.mono (by decide)) rfl TS.1 TS.2.1 TS.2.2 .nil passE (pa_cons (pv 0) pa_nil))) (pss_one (ps_expr (pe_call GL (hr.mono (by decide)) rfl TL.1 TL.2.1 TL.2.2 .nil passE (pa_cons (pv 1) pa_nil)))))
    have hrest : ∀ pn D Ts, GTs (gcxOf P w K mg base ["stock", "longest", "steps", "choices", "_", "chosen", "taken", "index"] "rows_of" (defScope sRO) f cdv A outer s H noX pn) ⟨D, Ts, Cw, Yw⟩ ((defBody sRO).drop 2) _ := fun pn D Ts => (gts_cons (gt_ps (ps_set (i := 2) scRO.nd rfl (.inr rfl) (pe_callTy (call_tuple_K (K := K) rfl) (by rfl) m_tuple (by decide +kernel) (pa_cons (pv 0) pa_nil))))
       (gts_cons (gt_ps (ps_set (i := 3) scRO.nd rfl (.inl rfl) (pe_lst (pa_cons (pe_tup pa_nil) pa_nil))))
       (gts_cons (gt_for owns_gcx rfl (pi_range1 rfl m_range (pa_cons (pe_op op_add (pv 1) pe_int) pa_nil)) (pg_name (i := 4) scRO.nd rfl (.inl rfl))
       (gts_cons (gt_for owns_gcx rfl (pi_list (pv 3)) (pg_name (i := 5) scRO.nd rfl (.inl rfl))
       (gts_cons (gt_ps (ps_set (i := 6) scRO.nd rfl (.inl rfl) (pe_callTy (call_tuple_K (K := K) rfl) (by rfl) m_tuple (by decide +kernel) (pa_cons (pe_lc (own := [("index", 7)]) (g := gName 7) (tt := tYes) (by rfl) scRO.nd (pi_tup (pv 5)) (blkOk_by (own := [("index", 7)]) (N := ["stock", "longest", "steps", "choices", "_", "chosen", "taken", "index"]) (sc := defScope sRO) (by decide +kernel)) (fun _ _ _ _ _ => (pg_name (i := 7) scRO.nd rfl (Or.inl rfl))) (fun _ _ _ _ _ => pts_nil) (fun _ _ _ _ _ => (pe_ix (ix_tupK (K := K) rfl) (pv 2) (pv 7) (fun _ _ => rfl)))) pa_nil))))
       (gts_cons (gt_if (pt_val (pe_call GGR (hr.mono (by first | decide | omega)) rfl TGR.1 TGR.2.1 TGR.2.2 .nil pass0 (pa_cons (pv 6) pa_nil)))
       (gts_cons (gt_yield (pe_makeS1 R.mkC GI (hr.mono (by decide)) rfl R.g passG (pv 6)))
       gts_nil) gts_nil)
       gts_nil)))
       (gts_cons (gt_ps (ps_set (i := 3) scRO.nd rfl (.inl rfl) (pe_call GC (hr.mono (by first | decide | omega)) rfl TC.1 TC.2.1 TC.2.2 .nil pass0 (pa_cons (pv 3) (pa_cons (pe_callB (call_len_K (K := K) rfl) (by rfl) m_len PySem.boot_len (pa_cons (pv 2) pa_nil)) pa_nil)))))
       gts_nil)))
       gts_nil)))
    simp only [gcx_K] at hpre hrest
    refine ⟨_, _, hpre, hrest, fun D Ts g g0 hC0 => ?_⟩
    refine ⟨_, rfl, v, b, rfl, hv, fun hb H1 s1 => ?_, fun hb t H' l => qS hb t H' l⟩
    refine ⟨_, rfl, u, c, rfl, hu.same s1, fun hc => ?_, fun hc t H' l => qN hb hc t H' (l.before s1)⟩
    obtain ⟨a, xs, ss, L, rfl, hx, hrow, hs6, rfl, hL, qC, qY, qQ⟩ := q hb hc
    have lxs := hrow.length
    refine ⟨_, rfl, a, xs, rfl, .inl ⟨s1.seq hx, fun tp nt => ?_⟩⟩
    have s2 := same_upd (o := HO.tup xs) nt
    refine ⟨Nat.zero_le _, fun z nz => ⟨by show 1 ≤ sizeLine; decide, fun lc0 nl => ?_⟩⟩
    have s3 := same_upd (o := HO.tup []) nz
    have s4 := same_upd (o := HO.lst [V.ref z]) nl
    have s14 : Same H (upd (upd (upd H1 tp (.tup xs)) z (.tup [])) lc0 (.lst [.ref z])) := ((s1.trans s2).trans s3).trans s4
    have htp : SqT K (upd (upd (upd H1 tp (.tup xs)) z (.tup [])) lc0 (.lst [.ref z])) tp xs := (s3.trans s4).tupS (SqT.of upd_same)
    have hch : All2 (ChT K (upd (upd (upd H1 tp (.tup xs)) z (.tup [])) lc0 (.lst [.ref z]))) [.ref z] (lev ss.length 0) := .cons ⟨z, rfl, s4.tupS (SqT.of upd_same)⟩ .nil
    have hlc : (upd (upd (upd H1 tp (.tup xs)) z (.tup [])) lc0 (.lst [.ref z])) lc0 = some (.lst [.ref z]) := upd_same
    generalize upd (upd (upd H1 tp (.tup xs)) z (.tup [])) lc0 (.lst [.ref z]) = H4 at s14 htp hch hlc
    refine ⟨_, rfl, _, _, rfl, rfl, _, rfl, by omega, by omega, ?_⟩
    rw [show ((L : Int) + 1).toNat = L + 1 by omega]
    refine gfor_range (fun i gh σ H' => ∃ (lc : Addr) (ys : List V) (a4 a5 a6 a7 : Option V), σ = [some (.ref a), some (natV L), some (.ref tp), some (.ref lc), a4, a5, a6, a7] ∧ Same H4 H' ∧ H' lc = some (.lst ys) ∧ All2 (ChT K H') ys (lev ss.length i) ∧ gh.1 = (rowsUp ss i).length ∧ Cw gh H')
      ⟨lc0, _, none, none, none, none, rfl, Same.refl _, hlc, hch, g0, qC _ _ _ s14 hC0⟩ ?_ ?_
    · rintro i gh σ H5 hi ⟨lc, ys, a4, a5, a6, a7, rfl, s5, e5, hys, eg, hC⟩
      have lys := hys.length
      have lb := lev_bound hs6 (show i ≤ 7 by omega)
      have rb := rowsUp_bound hs6 i (by omega)
      refine ⟨_, rfl, lc, rfl, ⟨ys, SqL.of e5⟩, gfor_list (K := K) (a := lc) (xs := ys) (fun j gh σ H' => ∃ a5 a6 a7 : Option V, σ = [some (.ref a), some (natV L), some (.ref tp), some (.ref lc), some (.int (0 + i)), a5, a6, a7] ∧ Same H5 H' ∧ gh.1 = (rowsUp ss i).length + (part ss i j).length ∧ Cw gh H')
        ⟨_, _, _, rfl, Same.refl _, eg, hC⟩ (fun j gh σ H' _ ⟨_, _, _, _, z, _⟩ => z.seq (SqL.of e5)) ?_ ?_⟩
      · rintro j x gh σ H6 hx6 ⟨b5, b6, b7, rfl, s6, eg6, hC6⟩
        obtain ⟨ch, hc1, hv6⟩ := hys.get hx6
        obtain ⟨p, rfl, hp⟩ := hv6
        obtain ⟨lch, hin⟩ := lev_mem ss.length i ch (List.mem_of_getElem? hc1)
        have pb := part_bound hs6 (show i ≤ 7 by omega) j
        refine ⟨_, rfl, p, rfl, ⟨_, s6.tupS hp⟩, fun D2 nD => lc_tup (K := K) (a := p) (xs := ch.map natV) (fun k H' => Same H6 H' ∧ H' D2 = some (.lst ((ch.take k).filterMap fun i => xs[i]?)))
          ⟨same_upd nD, upd_same⟩ (fun k H' _ z => z.1.tupS (s6.tupS hp)) ?_ ?_⟩
        · rintro k y H7 hy ⟨s7, e7⟩
          rw [List.getElem?_map] at hy
          obtain ⟨ix, hix, rfl⟩ := Option.map_eq_some_iff.mp hy
          have hlt : ix < xs.length := by rw [lxs]; exact hin ix (List.mem_of_getElem? hix)
          refine ⟨rfl, ?_⟩
          dsimp only [tYes]
          rw [if_pos rfl]
          refine ⟨_, rfl, _, rfl, tp, xs, _, xs[ix], rfl, rfl, ((s5.trans s6).trans s7).tupS htp, atI_nat (List.getElem?_eq_getElem hlt), ?_⟩
          refine ⟨_, e7, ?_, same_updN nD s7, ?_⟩
          · have l1 := List.length_filterMap_le (fun i => xs[i]?) (ch.take k)
            rw [List.length_take] at l1
            rw [sizeLine_eq]
            omega
          · rw [upd_same, take_snoc hix, List.filterMap_append, List.filterMap_cons_some (List.getElem?_eq_getElem hlt)]
            rfl
        · rintro H7 ⟨s7, e7⟩
          rw [List.length_map, List.take_length] at e7
          refine ⟨D2, _, rfl, .inl ⟨SqL.of e7, fun tk nk => ?_⟩⟩
          have s8 := same_upd (o := HO.tup (ch.filterMap fun i => xs[i]?)) nk
          have row7 : RowAt K d (upd H7 tk (HO.tup (ch.filterMap fun i => xs[i]?))) (ch.filterMap fun i => xs[i]?) (tkn ss ch) := (tkn_at hrow ch hin).same ((((s14.trans s5).trans s6).trans s7).trans s8)
          have ltk := tkn_len ss ch
          refine ⟨_, rfl, tk, _, tkn ss ch, rfl, SqT.of upd_same, row_steps row7, row_good row7, by omega, fun H8 s9 => ?_⟩
          refine ⟨_, rfl, ?_⟩
          have s68 : Same H6 H8 := (s7.trans s8).trans s9
          show if goodR (tkn ss ch) = true then _ else _
          cases hg : goodR (tkn ss ch) with
          | true =>
            refine iteT ⟨by rw [sizeLine_eq]; omega, _, rfl, tk, _, rfl, .inl (s9.tupS (SqT.of upd_same)), fun x dx nx nd ne => made_of (Q := fun y H9 => Yw gh y H9 ∧ ∀ (g' : Gh) (H' : Hp), g'.1 = gh.1 + 1 → Same H9 H' → Cw g' H' → ∃ a5 a6 a7 : Option V, [some (V.ref a), some (natV L), some (V.ref tp), some (V.ref lc), some (V.int (0 + i)), some (V.ref p), some (V.ref tk), b7] = [some (V.ref a), some (natV L), some (V.ref tp), some (V.ref lc), some (V.int (0 + i)), a5, a6, a7] ∧ Same H5 H' ∧ g'.1 = (rowsUp ss i).length + (part ss i (j + 1)).length ∧ Cw g' H') (E := noX) (of_rowAt (row7.same s9)) (by rw [List.length_map]; omega) ⟨fun hf ss' e x H9 s10 row => ?_, fun v hv => ?_⟩ nx nd ne⟩
            · have ess : ss' = tkn ss ch := by
                have z := congrArg (List.filterMap id) e
                rw [fm_some, fm_some] at z
                exact z.symm
              subst ess
              refine ⟨qY gh H9 _ x ((((s14.trans s5).trans s6).trans s68).trans s10) (qC _ _ _ (s68.trans s10) hC6) (by rw [eg6]; exact row_at hi hc1 hg) row, fun g' H' e1 gr hC' => ⟨_, _, _, rfl, (s6.trans s68).trans (s10.trans gr), ?_, hC'⟩⟩
              rw [part_snoc hc1, if_pos hg, List.length_append, e1, eg6]
              rfl
            · rw [fault_good (by omega) hg] at hv
              cases hv
          | false =>
            refine iteF ⟨_, _, _, rfl, s6.trans s68, ?_, qC _ _ _ s68 hC6⟩
            rw [part_snoc hc1, hg, if_neg (by decide), List.append_nil]
            exact eg6
      · rintro gh σ H6 ⟨b5, b6, b7, rfl, s6, eg6, hC6⟩
        refine ⟨_, rfl, _, rfl, tp, xs, rfl, .inr ((s5.trans s6).tupS htp), lc, xs.length, ys, lev ss.length i, rfl, s6.seq (SqL.of e5), hys.mono fun _ _ t => t.same s6, by omega, by omega, fun c hc => ?_, fun H7 l zs s7 nl7 e7 hz => ?_⟩
        · have := (lev_mem ss.length i c hc).1
          omega
        · rw [lxs] at hz
          refine ⟨l, zs, _, _, _, _, rfl, (s5.trans s6).trans s7, e7, hz, ?_, qC _ _ _ s7 hC6⟩
          rw [eg6, lys, part_all, List.length_append]
    · rintro gh σ H5 ⟨lc, ys, a4, a5, a6, a7, rfl, s5, e5, hys, eg, hC⟩
      exact qQ gh H5 (s14.trans s5) hC eg
end
end Rw

/-! V1 -/
namespace Rw
open PySem PySem.Spec PyProof.Rows L2
def Shows (K : PySem.W.Frag) (H : Hp) (v : V) (dv : PyData) : Prop := Dq K H v dv ∧ (dv.hasDict = false ∨ dv = .dict []) ∧ dv.showable = true ∧ dv.depth ≤ 40 ∧ dv.shown.length ≤ sizeLine
end Rw
/-! ### several except clauses, each with a name -/
namespace L2
open PySem PySem.Spec PyProof.Rows
/-- one clause after the other; slot i is the name's -/
def wAsL (K : PySem.W.Frag) (i : Nat) (Wout : WX) (D : Ends) : List (Value × (Addr → Value → Option Addr → TS)) → WX
  | [] => Wout
  | (c, ts) :: r => fun cls d σ H => ∃ b, PySem.W.exmOne K cls c = some b ∧
      (b = true → ∀ x, H x = none → ts x cls d ⟨fun σ2 H2 => D.nx (σ2.set i none) H2, D.rt, fun σ2 H2 => D.bk (σ2.set i none) H2, fun σ2 H2 => D.ct (σ2.set i none) H2⟩ (σ.set i (some (.ref x))) H) ∧ (b = false → wAsL K i Wout D r cls d σ H)
inductive HdsAs (X : Cx) (n : Str) : List ExceptHandler → List (Value × (Addr → Value → Option Addr → TS)) → Prop
  | nil : HdsAs X n [] []
  | cons {x : Str} {c : Value} {ts : Addr → Value → Option Addr → TS} {q₀ : Stmt} {qs : List Stmt} {p1 p2 : Pos} {more : List ExceptHandler} {l : List (Value × (Addr → Value → Option Addr → TS))} (named : Names X x c)
      (run : ∀ (x : Addr) (ox : Obj) (cls : Value) (d : Option Addr) (pn : List (Addr × Obj)), Zc cls d ox → (∃ vs, ox.data = .fields vs) → PSs (X.suite x ((x, ox) :: pn)) (q₀ :: qs) (ts x cls d)) (r : HdsAs X n more l) :
      HdsAs X n (.ExceptHandler (some (.Name x p1)) (some n) (q₀ :: qs) p2 :: more) ((c, ts) :: l)
section
variable {X : Cx} {n : Str} {i : Nat} {body : List Stmt} {g₀ : ExceptHandler} {gs : List ExceptHandler} {l : List (Value × (Addr → Value → Option Addr → TS))} {pos : Pos} {tb : WX → TS} {Wout : WX}
theorem SP.ofTryL {xe : Value → Shared → Prop} {pins : List (Addr × Obj)} {D : Ends} {fl : Flow} {s1 : Shared} (ok : X.Ok) (h : SP (X.tr (X.pn ++ pins) xe) [] D fl s1) : SP X pins D fl s1 := by
  cases fl with
  | next => exact let ⟨σ1, H1, J, q⟩ := h; ⟨σ1, H1, J.ofTry ok, q⟩
  | brk => exact let ⟨σ1, H1, J, q⟩ := h; ⟨σ1, H1, J.ofTry ok, q⟩
  | cont => exact let ⟨σ1, H1, J, q⟩ := h; ⟨σ1, H1, J.ofTry ok, q⟩
  | ret u => exact let ⟨v, σ1, H1, J, r, q⟩ := h; ⟨v, σ1, H1, J.ofTry ok, r, q⟩
theorem ps_try_asL (hs : X.stack = X.env :: X.outer) (hf : X.env.frame = some X.env.locals) (hN : X.N.Nodup) (hi : X.N[i]? = some n) (hln : X.env.kindOf n = some .local) (tk : Takes X Wout)
    (hb : ∀ (W : WX) (pn : List (Addr × Obj)) (xe : Value → Shared → Prop), Takes (X.tr pn xe) W → PassesOwn (model X.prog X.w) X.A X.env xe → PSs (X.tr pn xe) body (tb W))
    (hh : HdsAs X n (g₀ :: gs) l) : PS X (.Try body (g₀ :: gs) [] [] pos) (fun D σ H => tb (wAsL X.K i Wout D l) D σ H) := by
  refine ⟨fun pins s σ H D I h => ?_⟩
  have okX := I.ok
  have framesX : X.A.frames = some (X.env :: X.outer) := okX.frames.trans (congrArg some hs)
  have localX : Loc X.env.scope n := Or.inl hln
  apply wpAny_Try_except
  have body_ := hb (wAsL X.K i Wout D l) (X.pn ++ pins) (fun e t1 => wpAny (model X.prog X.w) X.A (noteFrame e X.env) (fun _ t2 => wpAny (model X.prog X.w) X.A (setFlight e none) (fun _ t3 => wpAny (model X.prog X.w) X.A (handleBy e X.env (g₀ :: gs)) (SP X pins D) X.xe t3) X.xe t2) X.xe t1)
  refine wpAny_mono ((body_ (fun u t caught => ?_) PassesOwn.looking).run [] s σ H D (I.toTry _) h) (fun fl t1 fine => ?_) (fun _ _ z => z)
  · obtain ⟨x, B, sI, pinsI, σ1, H1, cls, d, rfl, JI, nb, up, sky, fresh, os, bare, wish⟩ := caught
    have J := JI.ofTry okX
    rw [hs] at sky
    change wpAny (model X.prog X.w) X.A (noteFrame (.ref x) X.env) _ _ _
    refine Sky.land Zc.steady framesX hf sky fun h5 fl5 up5 => ?_
    have J5 : Inv X pins σ1 H1 { t with heap := h5 } := J.landed nb fl5.1 (up.trans up5) os bare
    obtain ⟨ox5, vs5, at5, zc5, data5⟩ := fl5.there
    have outside : x ∉ frs (X.env :: X.outer) := fun hm => by
      obtain ⟨_, o', e', other⟩ := fl5.2.2.1.mem hm
      rw [at5] at e'
      cases e'
      exact other _ data5
    have notL : x ≠ X.env.locals := fun z => outside (List.mem_filterMap.mpr ⟨X.env, .head _, by rw [hf, z]⟩)
    have notF : x ∉ X.fs := fun hm => let ⟨e, he, q⟩ := List.mem_filterMap.mp hm; outside (List.mem_filterMap.mpr ⟨e, .tail _ he, q⟩)
    have S5 := J5.suite at5 data5 fresh notL notF
    have turn : ∀ {more : List ExceptHandler} {l' : List (Value × (Addr → Value → Option Addr → TS))}, HdsAs X n more l' → wAsL X.K i Wout D l' cls d σ1 H1 → wpAny (model X.prog X.w) X.A (handleBy (.ref x) X.env more) (SP X pins D) X.xe { t with heap := h5 } := by
      intro more l' hk
      induction hk with
      | nil =>
        intro out
        apply wpAny_handleBy_nil
        obtain ⟨_, _, _, ox, vs, T, oT, ts', e1, e2, e3, e4, _⟩ := id fl5
        unfold PySem.passOn
        refine wpAny_bind (wpAny_field e1 e3 e4 ?_)
        rw [if_neg (by simp : ¬ ((Value.ref T == Value.none) = true))]
        have leave : wpAny (model X.prog X.w) X.A (setFlight (.ref x) X.env.frame) (fun _ t4 => wpAny (model X.prog X.w) X.A (throw (.ref x) : Sem Flow) (SP X pins D) X.xe t4) X.xe { t with heap := h5 } := by
          rw [hf]
          exact HandSPX.setFlight_upZ fl5 fun h6 sky6 up6 => wpAny_throw (tk _ _ ⟨x, B, sI, pins, σ1, H1, cls, d, rfl, J, nb, (up.trans up5).trans up6, .inr (.inr (by rw [hs]; exact sky6)), fresh, os, bare, out⟩)
        first | exact wpAny_bind (wpAny_pure (wpAny_bind leave)) | exact wpAny_bind leave
      | @cons xn c ts q₀ qs p1 p2 rest l2 named run r ih =>
        rintro ⟨b, isb, yes, no⟩
        refine wpAny_handleBy_cons (codeAny_handlers_test ?_) (by intro q; cases q)
        have ofx : PySem.W.Looks (model X.prog X.w) h5 (typeOf (.ref x)) cls := fun A Q E s k q => wpAny_typeOf_ref (k _ _ at5) (zc5.1 ▸ q)
        have asks := PySem.W.exm_one (M := model X.prog X.w) J5.kIn ofx isb
        have class_ : ∀ {Q : Value → Shared → Prop} {E : Value → Shared → Prop}, Q c { t with heap := h5 } → wpAny (model X.prog X.w) (X.A.mark (some (.ref x))) (eval (.Name xn p1) X.env) Q E { t with heap := h5 } := fun q => by
          obtain ⟨gl, dbg, own | ⟨none_, blt, nn⟩⟩ := named
          · exact ld_glob (X := X.suite x ((x, ox5) :: (X.pn ++ pins))) S5 gl own q dbg
          · exact ld_blt (X := X.suite x ((x, ox5) :: (X.pn ++ pins))) S5 gl none_ blt q nn dbg
        refine class_ (asks.here ?_)
        cases b with
        | false =>
          change wpAny _ X.A (handleBy (.ref x) X.env rest) _ _ _
          exact ih (no rfl)
        | true =>
          apply codeAny_handlers_suite_as
          refine HandSPX.lands_againZ fl5 fun h6 fl6 up6 => ?_
          have J6 : Inv X pins σ1 H1 { t with heap := h6 } := J.landed nb fl6.1 ((up.trans up5).trans up6) os bare
          obtain ⟨ox6, vs6, at6, zc6, data6⟩ := fl6.there
          have S6 := J6.suite at6 data6 fresh notL notF
          refine store_ok (X := X.suite x ((x, ox6) :: (X.pn ++ pins))) (v := .ref x) S6 hN hi localX rfl (fun t7 S7 => ?_) (.inr hln)
          refine wpAny_mono ((run x ox6 cls d (X.pn ++ pins) zc6 ⟨_, data6⟩).run [] t7 _ H1 _ S7 (yes rfl x fresh)) (fun fl t8 fine => ?_) (fun _ _ z => z.elim)
          have gone : ∀ {σ8 : St} {H8 : Hp} {Q : Shared → Prop}, Inv (X.suite x ((x, ox6) :: (X.pn ++ pins))) [] σ8 H8 t8 → (∀ t9, Inv X pins (σ8.set i none) H8 t9 → Q t9) →
              wpAny (model X.prog X.w) X.A (do bindName X.env n .none; unbindBehindTheSuite X.env n p2) (fun _ t9 => Q t9) X.xe t8 := fun S8 hq => gone_ok (S8.unsuite okX) hN hi hln hq
          cases fl with
          | next => exact let ⟨_, _, S8, q⟩ := fine; gone S8 fun _ J9 => ⟨_, _, J9, q⟩
          | brk => exact let ⟨_, _, S8, q⟩ := fine; gone S8 fun _ J9 => ⟨_, _, J9, q⟩
          | cont => exact let ⟨_, _, S8, q⟩ := fine; gone S8 fun _ J9 => ⟨_, _, J9, q⟩
          | ret u => exact let ⟨_, _, _, S8, rr, q⟩ := fine; gone S8 fun _ J9 => ⟨_, _, _, J9, rr, q⟩
    exact turn hh wish
  · have fine2 := SP.ofTryL okX fine
    cases fl with
    | next => exact wpAny_execs_nil fine2
    | brk => exact fine2
    | cont => exact fine2
    | ret u => exact fine2
end
end L2

/-! U4 -/
/-! ### rows listed, heard -/
namespace Rw
open PySem PySem.Spec PyProof.Rows L2 GenW
/-- a list of a row's steps -/
def LstS (K : PySem.W.Frag) (d : Addr) (H : Hp) (v : V) (ss : List Step) : Prop := ∃ (p : Addr) (xs : List V), v = .ref p ∧ H p = some (.lst xs) ∧ RowAt K d H xs ss
theorem LstS.same {K : PySem.W.Frag} {d : Addr} {H H' : Hp} (e : Same H H') {v : V} {ss : List Step} (h : LstS K d H v ss) : LstS K d H' v ss := let ⟨p, xs, e1, e2, r⟩ := h; ⟨p, xs, e1, e _ _ e2, r.same e⟩
def spLRows (K : PySem.W.Frag) (d : Addr) : Sp := fun vs H Q _ => ∃ (v u : V) (b c : Bool), vs = [v, u] ∧ StkV K d H v b ∧ IxV K H 7 u c ∧
  (b = true → c = true → ∃ (a : Addr) (xs : List V) (ss : List Step) (L : Nat), v = .ref a ∧ SqL K H a xs ∧ RowAt K d H xs ss ∧ ss.length ≤ 6 ∧ u = natV L ∧ L ≤ 6 ∧
    ∀ H' p ys, Same H H' → H p = none → H' p = some (.lst ys) → All2 (LstS K d H') ys (rowsUp ss (L + 1)) → Q (.ref p) H') ∧
  (b = false → ∃ dv, Shows K H v dv ∧ ∀ H' p, Same H H' → H p = none → H' p = some (.lst [.str "stock", .str dv.shown]) → Q (.ref p) H') ∧
  (b = true → c = false → ∃ dv, Shows K H u dv ∧ ∀ H' p, Same H H' → H p = none → H' p = some (.lst [.str "none", .str dv.shown]) → Q (.ref p) H')
/-- the steps' own values -/
def spStepsX (K : PySem.W.Frag) (C : Addr) : Sp := fun vs H Q _ => ∃ (a dx p h : Addr) (xs : List V), vs = [.ref a] ∧ H a = some (.ins C dx [("_steps", .ref p), ("_held", .ref h)]) ∧ SqT K H p xs ∧ ∀ H' l, Same H H' → H l = none → H' l = some (.lst xs) → Q (.ref l) H'
section
variable {P : Program} {w : World} {K : PySem.W.Frag} {mg : Str → Option Value} {base : Heap}
theorem ok_stepsN {f C fI fA fR : Addr} {fd : FuncData} (F : Fun K "steps" "Row.steps" sSt f fd) (R : RowC K mg C fI fA fR) (m_list : mg "list" = none) : FnOkN P w K mg base 1 f fd ["self"] (spStepsX K C) := by
  obtain ⟨oc, od, kV, doc, pm, an, cdv, ct, osl, rfl, lk, hcd⟩ := F.ex
  refine fnn_ret lk hcd scSt (fun vs H Q E h => ?_) fun A outer s H vs Q E hr h => ?_
  · obtain ⟨a, dx, p, hh, xs, rfl, _⟩ := h
    rfl
  · obtain ⟨a, dx, p, hh, xs, rfl, h1, h2, q⟩ := h
    refine ⟨_, pg_listOf (by rfl) m_list (by decide +kernel) (pg_fld (pg_var (i := 0) rfl (.inl rfl)) rfl), ?_⟩
    refine ⟨_, rfl, a, C, dx, _, _, rfl, h1, R.cl, R.nS, rfl, p, _, rfl, .inr h2, fun l nl => ?_⟩
    exact q _ l (same_upd nl) nl upd_same
abbrev sLRo : Stmt := top 45
theorem scLRo : FnScope ["_law_stock", "_law_longest", "e", "_law_row"] ["_law_stock", "_law_longest"] (defScope sLRo) := ⟨rfl, rfl, rfl, by decide +kernel, rfl, by decide +kernel, by decide +kernel⟩
theorem ok_lro {f fR fS fI fA fRR fE fE2 C d CS CN : Addr} {fd fdR fdS fdE fdE2 : FuncData} (F : Fun K "_law_rows" "_law_rows" sLRo f fd) (R : RowC K mg C fI fA fRR) (TS : Er P w K mg base "InvalidStock" "value" CS fE fdE) (TN : Er P w K mg base "InvalidNumber" "value" CN fE2 fdE2)
    (te : PySem.W.exmOne K (.ref CS) (.ref CS) = some true) (te2 : PySem.W.exmOne K (.ref CN) (.ref CS) = some false) (te3 : PySem.W.exmOne K (.ref CN) (.ref CN) = some true)
    (ns1 : PySem.W.subIn K (.ref CS) (.type "StopIteration") = some false) (ns2 : PySem.W.subIn K (.ref CN) (.type "StopIteration") = some false)
    (GR : GFns P w K mg base 6 fR fdR ["stock", "longest"] (spRows K C d CS CN)) (TR : Called K mg "rows_of" ["stock", "longest"] fR fdR)
    (GS : FnOkN P w K mg base 1 fS fdS ["self"] (spStepsX K C)) (bS : Binds K fdS ["self"] []) (mS : Meth K C "steps" fS) (m_repr : mg "repr" = none) : FnOkG P w K mg base CX0 8 f fd ["_law_stock", "_law_longest"] (spLRows K d) := by
  refine F.okG scLRo (fun vs H Q E h => ?_) (fun cdv A outer s H vs Q E hgd hr h => ?_)
  · obtain ⟨v, u, b, c, rfl, _⟩ := h
    rfl
  · obtain ⟨v, u, b, c, rfl, hv, hu, q, qS, qN⟩ := h
    refine ⟨_, pss_one (ps_try_asL (i := 2) (l := _) rfl rfl scLRo.nd rfl rfl takes0
      (fun W pn xe tk _ => pss_one (ps_ret (pe_lcg (k := 6) (i := 3) (E := fun σ cls d H => W cls d σ H ∧ PySem.W.subIn K cls (.type "StopIteration") = some false) rfl scLRo.nd rfl rfl (hr.mono (by decide))
        (pgs_call GR (hr.mono (by decide)) rfl TR.1 TR.2.1 TR.2.2 .nil (pa_cons (pv 0) (pa_cons (pv 1) pa_nil))) tk (fun _ _ _ _ h => h.1) (fun _ _ _ _ h => h.2)
        (blkOk_by (own := [("_law_row", 3)]) (N := ["_law_stock", "_law_longest", "e", "_law_row"]) (sc := defScope sLRo) (by decide +kernel)) (by decide +kernel) rfl
        (fun _ _ _ _ => pg_meth0 (E := E0) (pg_var (i := 3) rfl (.inl rfl)) R.cl mS GS (hr.mono (by decide)) bS))))
      (.cons ⟨rfl, by decide, .inl TS.g⟩ (fun a oe cls dd pn hz hf => pss_one (ps_ret (pe_lst (pa_cons pe_str (pa_cons (pe_callB (call_reprDK (K := K) rfl hgd hr.units) (by rfl) m_repr (by decide +kernel) (pa_cons (pe_xf (xf_of TS.o) TS.no hz hf (pv 2)) pa_nil)) pa_nil)))))
        (.cons ⟨rfl, by decide, .inl TN.g⟩ (fun a oe cls dd pn hz hf => pss_one (ps_ret (pe_lst (pa_cons pe_str (pa_cons (pe_callB (call_reprDK (K := K) rfl hgd hr.units) (by rfl) m_repr (by decide +kernel) (pa_cons (pe_xf (xf_of TN.o) TN.no hz hf (pv 2)) pa_nil)) pa_nil))))) .nil))), ?_⟩
    have bound : ∀ {ss : List Step} {L : Nat}, ss.length ≤ 6 → L ≤ 6 → (rowsUp ss (L + 1)).length ≤ 2000000 := fun {ss L} h6 hL => by
      have z := rowsUp_bound h6 (L + 1) (by omega)
      have z2 : (L + 1) * 279936 ≤ 7 * 279936 := Nat.mul_le_mul_right _ (by omega)
      omega
    cases hb : b with
    | false =>
      refine ⟨fun _ _ _ => True, _, rfl, _, rfl, trivial, v, u, false, c, rfl, hb ▸ hv, hu, fun z => (nomatch z), fun _ t H1 lf => ⟨⟨true, te, fun _ e ne => ?_, fun z => nomatch z⟩, ns1⟩, fun z => nomatch z⟩
      obtain ⟨s1, nt, ht⟩ := lf
      obtain ⟨dv, ⟨g1, g2, g3, g4, g5⟩, qE⟩ := qS hb
      refine ⟨_, rfl, rfl, rfl, t, _, v, rfl, ht, rfl, v, dv, rfl, dq_same s1 _ _ g1, g2, g3, g4, g5, by show 2 ≤ sizeLine; decide, fun p np => ?_⟩
      exact qE _ _ (s1.trans (same_upd np)) (s1.free np) upd_same
    | true =>
    cases hc : c with
    | false =>
      refine ⟨fun _ _ _ => True, _, rfl, _, rfl, trivial, v, u, true, false, rfl, hb ▸ hv, hc ▸ hu, fun _ z => (nomatch z), fun z => (nomatch z), fun _ _ t H1 lf => ⟨⟨false, te2, fun z => (nomatch z), fun _ => ⟨true, te3, fun _ e ne => ?_, fun z => nomatch z⟩⟩, ns2⟩⟩
      obtain ⟨s1, nt, ht⟩ := lf
      obtain ⟨dv, ⟨g1, g2, g3, g4, g5⟩, qE⟩ := qN hb hc
      refine ⟨_, rfl, rfl, rfl, t, _, u, rfl, ht, rfl, u, dv, rfl, dq_same s1 _ _ g1, g2, g3, g4, g5, by show 2 ≤ sizeLine; decide, fun p np => ?_⟩
      exact qE _ _ (s1.trans (same_upd np)) (s1.free np) upd_same
    | true =>
      obtain ⟨a, xs, ss, L, rfl, hx, hrow, h6, rfl, hL, qq⟩ := q hb hc
      have bd := bound h6 hL
      refine ⟨fun k acc H' => Same H H' ∧ All2 (LstS K d H') acc ((rowsUp ss (L + 1)).take k), ?_⟩
      refine ⟨_, rfl, _, rfl, ⟨Same.refl _, .nil⟩, .ref a, natV L, true, true, rfl, hb ▸ hv, hc ▸ hu, fun _ _ => ?_, fun z => (nomatch z), fun _ z => nomatch z⟩
      refine ⟨a, xs, ss, L, rfl, hx, hrow, h6, rfl, hL, fun g H1 H2 s12 hC => ?_, fun g H1 t p s1 hC ht row => ?_, fun g H1 s1 hC hg => ?_⟩
      · obtain ⟨acc, ha, s0, al⟩ := hC
        exact ⟨acc, ha, s0.trans s12, al.mono fun _ _ t => t.same s12⟩
      · obtain ⟨acc, ha, s0, al⟩ := hC
        have la := al.length
        rw [List.length_take] at la
        obtain ⟨dx, p2, hh, ws, ys, r1, r2, r3, r4, r5⟩ := row
        refine ⟨acc, ha, by rw [sizeLine_eq]; omega, fun D Hc nD eD sc => ?_⟩
        refine ⟨_, rfl, p, dx, _, rfl, sc _ _ r1, rfl, p, dx, p2, hh, ws, rfl, sc _ _ r1, (show Same H1 Hc from sc).tupS r2, fun H4 l s4 nl e4 => ⟨s4, fun H9 g1 g2 => ⟨s1.trans g1, ?_⟩⟩⟩
        rw [take_snoc ht]
        exact (al.mono fun _ _ t => t.same g1).append (.cons ⟨l, ws, rfl, g2 _ _ nl e4, r3.same g1⟩ .nil)
      · obtain ⟨acc, ha, s0, al⟩ := hC
        rw [hg, List.take_length] at al
        exact ⟨acc, ha, fun D nD => qq _ D acc (s0.trans (same_upd nD)) (s0.free nD) upd_same (al.mono fun _ _ t => t.same (same_upd nD))⟩
end
end Rw

/-! U5 -/
/-! ### prices -/
namespace L2
open PySem PySem.Spec PyProof.Rows
def tCallNS (n m : Nat) (sp : Sp) (gV : List V → List V → List V) (E : St → XK) (t tk : TA) : TE := fun σ H Q => t σ H fun vs H1 => tk σ H1 fun zs H2 => vs.length = n ∧ zs.length = m ∧ sp (gV vs zs) H2 Q (E σ)
section
variable {X : Cx} {CX : CXT} {k n : Nat} {f : Addr} {fd : FuncData} {ps ks : List Str} {sp : Sp} {E : St → XK} {x : Str} {p pos : Pos} {e : Expr} {es : List Expr} {kws : List Keyword} {t tk : TA} {g : List Value → List Value → List Value} {gV : List V → List V → List V}
theorem run_fnNS {pins : List (Addr × Obj)} {σ : St} {H : Hp} {s : Shared} {Q : VK} {us ws : List Value} {vs zs : List V} (F : FnOk X.prog X.w X.K X.mg X.base CX k f fd ps sp) (hr : Room k X.A) (hb : KBn X.K fd ps n ks g gV) (hx : PassesAt CX X σ (E σ))
    (I : Inv X pins σ H s) (r : Vals vs us) (rz : Vals zs ws) (l1 : vs.length = n) (l2 : zs.length = ks.length) (h : sp (gV vs zs) H Q (E σ)) : wpAny (model X.prog X.w) X.A (call (.ref f) us (ks.zip ws)) (EP X pins σ Q) X.xe s := by
  have r2 := hb.rel r rz
  refine wpAny_call (codeAny_mono (F.run X.A X.stack s H ⟨us, ks.zip ws⟩ (g us ws) (gV vs zs) Q (E σ) hr I.env0 (hb.to s us ws I.kIn (r.length.symm.trans l1) (rz.length.symm.trans l2)) r2 h) fun r s' hq => ?_)
  cases r with
  | error e => exact hx pins H s e s' I hq
  | ok fl =>
    cases fl with
    | ret u => exact I.after hq
    | next => exact False.elim hq
    | brk => exact False.elim hq
    | cont => exact False.elim hq
/-- f(e, .., k = v, ..) within a try -/
theorem pe_callNS (F : FnOk X.prog X.w X.K X.mg X.base CX k f fd ps sp) (hr : Room k X.A) (hg : Gl X x) (hm : X.mg x = some (.ref f)) (hk : PySem.W.keepIn X.K (.ref f) = true) (hb : KBn X.K fd ps n ks g gV) (hx : ∀ σ, PassesAt CX X σ (E σ))
    (ha : PA X (e :: es) t) (hkw : PK X kws tk) (hall : (backToKw pos (keywordEach kws X.env)).all (·.1.isSome) = true := by rfl) (hks : (backToKw pos (keywordEach kws X.env)).filterMap (·.1) = ks := by rfl)
    (hdb : (x == ("__debug__" : Str)) = false := by decide) (he : starEach (e :: es) X.env = (false, eval e X.env) :: starEach es X.env := by rfl)
    (hpl : ((backTo pos (starEach (e :: es) X.env)).any (·.1) || (backToKw pos (keywordEach kws X.env)).any (·.1.isNone)) = false := by rfl) :
    PE X (.Call (.Name x p) (e :: es) kws pos) (tCallNS n ks.length sp gV E t tk) := by
  refine ⟨fun pins s σ H Q I h => ?_⟩
  refine wpAny_Call_Name_kw (ld_glob I hg hm ?_ hdb)
  refine PySem.W.callWith_KW (h₀ := X.base) I.ok.mod.kin hk hall (thn (ha.run pos pins s σ H _ I h) fun us s1 ⟨vs, H1, I1, r, q⟩ => ?_) hpl he
  refine thn (hkw.run pos pins s1 σ H1 _ I1 q) fun ws s2 ⟨zs, H2, I2, rz, l1, l2, q2⟩ => ⟨I2.kIn, ?_⟩
  rw [hks]
  exact run_fnNS F hr hb (hx σ) I2 r rz l1 l2 q2
end
end L2
namespace Rw
open PySem PySem.Spec PyProof.Rows L2
def waits : List V := [.str "halt", .str "settle", .str "drain"]
def waitW (w : Str) : Bool := inV (.str w) waits
def cost (ss : List Step) (a b : Int) : Int := (ss.map fun s => if waitW s.1 = true then a else b).sum
def spCost (K : PySem.W.Frag) : Sp := fun vs H Q _ => ∃ (p : Addr) (xs : List V) (ss : List Step) (a b : Int), vs = [.ref p, .int a, .int b] ∧ SqL K H p xs ∧ StepsAt K H xs ss ∧ ss.length ≤ 1000 ∧ ∀ H', Same H H' → Q (.int (cost ss a b)) H'
def spPrice (K : PySem.W.Frag) (C d CN : Addr) : Sp := fun vs H Q E => ∃ (r : Addr) (v u : V) (b c : Bool) (ss : List Step), vs = [.ref r, v, u] ∧ IsRow K C d H r ss ∧ ss.length ≤ 300 ∧ IxV K H 1001 v b ∧ IxV K H 1001 u c ∧
  (b = true → c = true → ∃ i j : Int, v = .int i ∧ u = .int j ∧ ∀ H', Same H H' → Q (.int (cost ss i j)) H') ∧ (b = false → ∀ t H', Left H "value" v t H' → E (.ref CN) (some t) H') ∧ (b = true → c = false → ∀ t H', Left H "value" u t H' → E (.ref CN) (some t) H')
section
variable {P : Program} {w : World} {K : PySem.W.Frag} {mg : Str → Option Value} {base : Heap}
abbrev sCo : Stmt := top 36
theorem scCo : FnScope ["steps", "wait", "plain", "word", "_"] ["steps", "wait", "plain"] (defScope sCo) := ⟨rfl, rfl, rfl, by decide +kernel, rfl, by decide +kernel, by decide +kernel⟩
theorem ok_cost {f aW : Addr} {fd : FuncData} (F : Fun K "cost_of" "cost_of" sCo f fd) (mWW : mg "WAIT_WORDS" = some (.ref aW)) (hWW : ∀ H, SqT K H aW waits) (m_sum : mg "sum" = none) : FnOk P w K mg base CX0 1 f fd ["steps", "wait", "plain"] (spCost K) := by
  refine F.ok scCo (fun vs H Q E h => ?_) (fun cdv A outer s H vs Q E hr h => ?_)
  · obtain ⟨p, xs, ss, a, b, rfl, _⟩ := h
    rfl
  · obtain ⟨p, xs, ss, a, b, rfl, hx, hs, hz, q⟩ := h
    refine ⟨_, (pss_one (ps_ret (pe_callB (cr_sum rfl) (by rfl) m_sum (by decide +kernel) (pa_cons (pe_lc (own := [("word", 3), ("_", 4)]) (g := gTup K 2 (gCons (gName 3) (gCons (gName 4) gNil))) (tt := tYes) (by rfl) scCo.nd (pi_list (pv 0)) (blkOk_by (own := [("word", 3), ("_", 4)]) (N := ["steps", "wait", "plain", "word", "_"]) (sc := defScope sCo) (by decide +kernel)) (fun _ _ _ _ _ => (pg_tup rfl (pgs_cons (pg_name (i := 3) scCo.nd rfl (Or.inl rfl)) (pgs_cons (pg_name (i := 4) scCo.nd rfl (Or.inl rfl)) pgs_nil)))) (fun _ _ _ _ _ => pts_nil) (fun _ _ _ _ _ => (pe_ifExp (pt_cmpR (op_in_seqKK (K := K) rfl) (pv 3) (pe_glob (v := .ref aW) rfl mWW rfl) (by rfl))
       (pv 1)
       (pv 2)))) pa_nil)))), ?_⟩
    have len := hs.length
    refine ⟨_, rfl, p, rfl, ⟨_, hx⟩, fun D nD => lc_list (K := K) (a := p) (xs := xs) (fun i H' => Same H H' ∧ H' D = some (.lst (((ss.take i).map fun s => if waitW s.1 = true then a else b).map V.int))) ⟨same_upd nD, upd_same⟩ (fun i H' _ z => z.1.seq hx) ?_ ?_⟩
    · rintro i x H1 hx1 ⟨s1, e1⟩
      obtain ⟨st, hst, hv⟩ := hs.get hx1
      have hi : i < ss.length := (List.getElem?_eq_some_iff.mp hst).1
      obtain ⟨p1, rfl, hp⟩ := hv
      refine ⟨p1, _, rfl, s1.tupS hp, rfl, _, _, rfl, _, _, rfl, rfl, rfl, ?_⟩
      dsimp only [tYes]
      rw [if_pos rfl]
      refine ⟨_, rfl, aW, waits, rfl, .inr (hWW H1), rfl, rfl, _, rfl, ?_⟩
      have fin : Same H (upd H1 D (.lst (((ss.take i).map fun s => if waitW s.1 = true then a else b).map V.int ++ [V.int (if waitW st.1 = true then a else b)]))) ∧ (upd H1 D (.lst (((ss.take i).map fun s => if waitW s.1 = true then a else b).map V.int ++ [V.int (if waitW st.1 = true then a else b)]))) D = some (.lst (((ss.take (i + 1)).map fun s => if waitW s.1 = true then a else b).map V.int)) := by
        refine ⟨same_updN nD s1, ?_⟩
        rw [upd_same, take_snoc hst, List.map_append, List.map_append]
        rfl
      have bd : (((ss.take i).map fun s => if waitW s.1 = true then a else b).map V.int).length < sizeLine := by
        rw [List.length_map, List.length_map, List.length_take, sizeLine_eq]
        omega
      show if waitW st.1 = true then _ else _
      by_cases hw : waitW st.1 = true
      · rw [if_pos hw] at fin ⊢
        exact ⟨_, rfl, _, e1, bd, fin⟩
      · rw [if_neg hw] at fin ⊢
        exact ⟨_, rfl, _, e1, bd, fin⟩
    · rintro H1 ⟨s1, e1⟩
      rw [len, List.take_length] at e1
      exact ⟨D, _, rfl, SqL.of e1, q _ s1⟩
abbrev sPr : Stmt := top 37
theorem scPr : FnScope ["row", "wait", "plain"] ["row", "wait", "plain"] (defScope sPr) := ⟨rfl, rfl, rfl, by decide +kernel, rfl, by decide +kernel, by decide +kernel⟩
theorem ok_price {f fP fC fS C d CN fI fA fR : Addr} {fd fdP fdC fdS : FuncData} (F : FunD K "price" "price" (defArgs sPr) (defBody sPr) (defScope sPr) [] [("wait", .int 3), ("plain", .int 1)] f fd) (R : RowC K mg C fI fA fR)
    (GP : FnOk P w K mg base (L2.CX P w) 4 fP fdP ["wait", "plain"] (spCPr K CN)) (TP : Called K mg "check_prices" ["wait", "plain"] fP fdP) (GC : FnOk P w K mg base CX0 1 fC fdC ["steps", "wait", "plain"] (spCost K)) (TC : Called K mg "cost_of" ["steps", "wait", "plain"] fC fdC)
    (GS : FnOk P w K mg base CX0 1 fS fdS ["self"] (spSteps K C d)) (bS : Binds K fdS ["self"] []) (mS : Meth K C "steps" fS) : FnOk P w K mg base (L2.CX P w) 5 f fd ["row", "wait", "plain"] (spPrice K C d CN) := by
  refine F.ok scPr (fun vs H Q E h => ?_) (fun cdv A outer s H vs Q E hr h => ?_)
  · obtain ⟨r, v, u, b, c, ss, rfl, _⟩ := h
    rfl
  · obtain ⟨r, v, u, b, c, ss, rfl, hrow, hz, hv, hu, q, q1, q2⟩ := h
    refine ⟨_, (pss_cons (ps_expr (pe_call GP (hr.mono (by decide)) rfl TP.1 TP.2.1 TP.2.2 .nil passX (pa_cons (pv 1) (pa_cons (pv 2) pa_nil))))
       (pss_one (ps_ret (pe_call GC (hr.mono (by first | decide | omega)) rfl TC.1 TC.2.1 TC.2.2 .nil pass0 (pa_cons (pe_meth0 (pv 0) R.cl mS GS (hr.mono (by decide)) bS .nil pass0) (pa_cons (pv 1) (pa_cons (pv 2) pa_nil))))))), ?_⟩
    obtain ⟨dx, p, hh, xs, ys, h1, h2, h3, h5, h6⟩ := hrow
    refine ⟨_, rfl, _, rfl, v, u, b, c, rfl, hv, hu, fun hb hc => ?_, q1, q2⟩
    obtain ⟨i, j, rfl, rfl, qq⟩ := q hb hc
    refine ⟨_, rfl, r, dx, _, rfl, h1, rfl, r, ss, rfl, ⟨dx, p, hh, xs, ys, h1, h2, h3, h5, h6⟩, fun H2 l zs s2 nl e2 hz2 => ?_⟩
    exact ⟨_, rfl, _, rfl, l, zs, ss, i, j, rfl, SqL.of e2, row_steps hz2, by omega, fun H3 s3 => qq _ (s2.trans s3)⟩
end
end Rw

/-! U6 -/
/-! ### prices heard -/
namespace Rw
open PySem PySem.Spec PyProof.Rows L2
def spLPrice (K : PySem.W.Frag) (C d : Addr) : Sp := fun vs H Q _ => ∃ (r : Addr) (v u : V) (b c : Bool) (ss : List Step), vs = [.ref r, v, u] ∧ IsRow K C d H r ss ∧ ss.length ≤ 300 ∧ IxV K H 1001 v b ∧ IxV K H 1001 u c ∧
  (b = true → c = true → ∃ i j : Int, v = .int i ∧ u = .int j ∧ ∀ H', Same H H' → Q (.int (cost ss i j)) H') ∧
  (b = false → ∃ dv, Shows K H v dv ∧ ∀ H' p, Same H H' → H p = none → H' p = some (.lst [.str "none", .str dv.shown]) → Q (.ref p) H') ∧
  (b = true → c = false → ∃ dv, Shows K H u dv ∧ ∀ H' p, Same H H' → H p = none → H' p = some (.lst [.str "none", .str dv.shown]) → Q (.ref p) H')
section
variable {P : Program} {w : World} {K : PySem.W.Frag} {mg : Str → Option Value} {base : Heap} {f : Addr} {fd : FuncData}
theorem kb_both (F : FunD K "price" "price" (defArgs sPr) (defBody sPr) (defScope sPr) [] [("wait", .int 3), ("plain", .int 1)] f fd) :
    ∃ mv : List Value, KBn K fd ["row", "wait", "plain"] 1 ["wait", "plain"] (fun us ws => us ++ (mv ++ ws)) (fun vs zs => vs ++ (([] : List (Str × V)).map (·.2) ++ zs)) :=
  F.kbinds0 1 ["wait", "plain"] [] (fun us mv ws => us ++ (mv ++ ws)) (by simp) (fun q hq => by cases hq) (fun a b c => a.append (b.append c)) fun D doc pm an cdv ct us mv ws h1 h2 h3 => match us, mv, ws, h1, h2, h3 with
    | [_], [], [_, _], _, _, _ => rfl
theorem kb_plain (F : FunD K "price" "price" (defArgs sPr) (defBody sPr) (defScope sPr) [] [("wait", .int 3), ("plain", .int 1)] f fd) :
    ∃ mv : List Value, KBn K fd ["row", "wait", "plain"] 1 ["plain"] (fun us ws => us ++ (mv ++ ws)) (fun vs zs => vs ++ ([(("wait" : Str), V.int 3)].map (·.2) ++ zs)) :=
  F.kbinds0 1 ["plain"] [("wait", .int 3)] (fun us mv ws => us ++ (mv ++ ws)) (by simp) (fun q hq => by rw [List.mem_singleton.mp hq]; exact List.mem_cons_self) (fun a b c => a.append (b.append c)) fun D doc pm an cdv ct us mv ws h1 h2 h3 => match us, mv, ws, h1, h2, h3 with
    | [_], [_], [_], _, _, _ => ⟨_, _, _, _, _, _, rfl, rfl, rfl⟩
theorem kb_wait (F : FunD K "price" "price" (defArgs sPr) (defBody sPr) (defScope sPr) [] [("wait", .int 3), ("plain", .int 1)] f fd) :
    ∃ mv : List Value, KBn K fd ["row", "wait", "plain"] 1 ["wait"] (fun us ws => us ++ (ws ++ mv)) (fun vs zs => vs ++ (zs ++ [(("plain" : Str), V.int 1)].map (·.2))) :=
  F.kbinds0 1 ["wait"] [("plain", .int 1)] (fun us mv ws => us ++ (ws ++ mv)) (by simp) (fun q hq => by rw [List.mem_singleton.mp hq]; exact List.mem_cons_of_mem _ List.mem_cons_self) (fun a b c => a.append (c.append b)) fun D doc pm an cdv ct us mv ws h1 h2 h3 => match us, mv, ws, h1, h2, h3 with
    | [_], [_], [_], _, _, _ => ⟨_, _, _, _, _, _, rfl, rfl, rfl⟩
theorem kb_none (F : FunD K "price" "price" (defArgs sPr) (defBody sPr) (defScope sPr) [] [("wait", .int 3), ("plain", .int 1)] f fd) : ∃ ds, Vals [V.int 3, V.int 1] ds ∧ Binds K fd ["row", "wait", "plain"] ds :=
  F.binds0 1 (by simp) rfl fun D doc pm an cdv ct us ks h1 h2 => match us, ks, h1, h2 with
    | [_], [_, _], _, _ => ⟨_, _, _, _, _, _, rfl, rfl, _, _, _, _, _, _, rfl, rfl, rfl⟩
abbrev sLPr : Stmt := top 46
theorem scLPr : FnScope ["_law_row", "_law_one", "_law_other", "e"] ["_law_row", "_law_one", "_law_other"] (defScope sLPr) := ⟨rfl, rfl, rfl, by decide +kernel, rfl, by decide +kernel, by decide +kernel⟩
theorem ok_lpr {f fP fE C d CN : Addr} {fd fdP fdE : FuncData} (F : Fun K "_law_price" "_law_price" sLPr f fd) (TN : Er P w K mg base "InvalidNumber" "value" CN fE fdE) (te : PySem.W.exmOne K (.ref CN) (.ref CN) = some true)
    (GP : FnOk P w K mg base (L2.CX P w) 5 fP fdP ["row", "wait", "plain"] (spPrice K C d CN)) (gP : mg "price" = some (.ref fP)) (FP : FunD K "price" "price" (defArgs sPr) (defBody sPr) (defScope sPr) [] [("wait", .int 3), ("plain", .int 1)] fP fdP)
    (m_repr : mg "repr" = none) : FnOkG P w K mg base CX0 6 f fd ["_law_row", "_law_one", "_law_other"] (spLPrice K C d) := by
  obtain ⟨mv, KB⟩ := kb_both FP
  refine F.okG scLPr (fun vs H Q E h => ?_) (fun cdv A outer s H vs Q E hgd hr h => ?_)
  · obtain ⟨r, v, u, b, c, ss, rfl, _⟩ := h
    rfl
  · obtain ⟨r, v, u, b, c, ss, rfl, hrow, hz, hv, hu, q, qS, qN⟩ := h
    refine ⟨_, pss_one (ps_try_asL (i := 3) (l := _) rfl rfl scLPr.nd rfl rfl takes0
      (fun W pn xe tk _ => pss_one (ps_ret (pe_callNS GP (hr.mono (by decide)) rfl gP FP.kp KB (fun σ => passAt tk σ) (pa_cons (pv 0) pa_nil) (pk_cons (pv 1) (pk_cons (pv 2) pk_nil)))))
      (.cons ⟨rfl, by decide, .inl TN.g⟩ (fun a oe cls dd pn hz hf => pss_one (ps_ret (pe_lst (pa_cons pe_str (pa_cons (pe_callB (call_reprDK (K := K) rfl hgd hr.units) (by rfl) m_repr (by decide +kernel) (pa_cons (pe_xf (xf_of TN.o) TN.no hz hf (pv 3)) pa_nil)) pa_nil))))) .nil)), ?_⟩
    refine ⟨_, rfl, _, rfl, _, rfl, rfl, rfl, r, v, u, b, c, ss, rfl, hrow, hz, hv, hu, q, fun hb t H1 lf => ⟨true, te, fun _ e ne => ?_, fun z => nomatch z⟩, fun hb hc t H1 lf => ⟨true, te, fun _ e ne => ?_, fun z => nomatch z⟩⟩
    · obtain ⟨s1, nt, ht⟩ := lf
      obtain ⟨dv, ⟨g1, g2, g3, g4, g5⟩, qE⟩ := qS hb
      refine ⟨_, rfl, rfl, rfl, t, _, v, rfl, ht, rfl, v, dv, rfl, dq_same s1 _ _ g1, g2, g3, g4, g5, by show 2 ≤ sizeLine; decide, fun p np => ?_⟩
      exact qE _ _ (s1.trans (same_upd np)) (s1.free np) upd_same
    · obtain ⟨s1, nt, ht⟩ := lf
      obtain ⟨dv, ⟨g1, g2, g3, g4, g5⟩, qE⟩ := qN hb hc
      refine ⟨_, rfl, rfl, rfl, t, _, u, rfl, ht, rfl, u, dv, rfl, dq_same s1 _ _ g1, g2, g3, g4, g5, by show 2 ≤ sizeLine; decide, fun p np => ?_⟩
      exact qE _ _ (s1.trans (same_upd np)) (s1.free np) upd_same
end
end Rw

/-! U7 -/
/-! ### the law's own look at a step -/
namespace Rw
open PySem PySem.Spec PyProof.Rows L2
theorem listD_shaped {ns : List Str} (h : ∀ n ∈ ns, sOk n) : SeqAt.shaped (.list (ns.map PyData.str)) = true := by
  obtain ⟨a, b⟩ := txt_lay ns h
  refine shaped_of (by simp only [PyData.canLay0]; exact a) ?_
  simp only [PyData.depth]
  omega
section
variable {P : Program} {w : World} {K : PySem.W.Frag} {mg : Str → Option Value} {base : Heap}
end
end Rw

/-! ### the law's own look at the locks -/
namespace Rw
open PySem PySem.Spec PyProof.Rows L2
theorem eqv_list_txt (as bs : List Str) : PyData.eqv (.list (as.map PyData.str)) (.list (bs.map PyData.str)) = decide (as = bs) := by
  rw [show PyData.eqv (.list (as.map PyData.str)) (.list (bs.map PyData.str)) = PyData.eqvAll (as.map PyData.str) (bs.map PyData.str) by simp only [PyData.eqv]]
  exact eqvAll_txt as bs
theorem stepsL_shaped {ss : List Step} (h : ∀ s ∈ ss, GoodS s) : SeqAt.shaped (.list (ss.map stepD)) = true := by
  obtain ⟨a, b⟩ := stepsD_lay ss h
  refine shaped_of (by simp only [PyData.canLay0]; exact a) ?_
  simp only [PyData.depth]
  omega
theorem cut_tail (xs : List V) (i : Nat) (hi : i < xs.length) : cutV xs (some ((i : Int) + 1)) none = xs.drop (i + 1) := by
  have e1 : HT.sIx xs.length 0 (some ((i : Int) + 1)) = i + 1 := by
    have z := HT.sIx_nat xs.length 0 (i + 1)
    rw [show (((i + 1 : Nat) : Int)) = (i : Int) + 1 by omega] at z
    rw [z]
    omega
  show (xs.drop (HT.sIx xs.length 0 (some ((i : Int) + 1)))).take (HT.sIx xs.length xs.length none - HT.sIx xs.length 0 (some ((i : Int) + 1))) = _
  rw [e1]
  show (xs.drop (i + 1)).take (xs.length - (i + 1)) = _
  rw [List.take_of_length_le]
  rw [List.length_drop]
  exact Nat.le_refl _
section
variable {P : Program} {w : World} {K : PySem.W.Frag} {mg : Str → Option Value} {base : Heap}
end
end Rw

/-! ### the law's own look at the locks -/
namespace Rw
open PySem PySem.Spec PyProof.Rows L2
def spBal (K : PySem.W.Frag) : Sp := fun vs H Q _ => ∃ (l : Addr) (xs : List V) (ss : List Step), vs = [.ref l] ∧ SqL K H l xs ∧ StepsAt K H xs ss ∧ (∀ s ∈ ss, GoodS s) ∧ ss.length ≤ 200 ∧ ∀ H', Same H H' → Q (.bl (goodR ss)) H'
section
variable {P : Program} {w : World} {K : PySem.W.Frag} {mg : Str → Option Value} {base : Heap}
abbrev sBal : Stmt := top 43
theorem scBal : FnScope ["_law_steps", "_law_own", "_law_at", "_law_word", "_law_name"] ["_law_steps"] (defScope sBal) := ⟨rfl, rfl, rfl, by decide +kernel, rfl, by decide +kernel, by decide +kernel⟩
theorem ok_bal {f : Addr} {fd : FuncData} (F : Fun K "_law_balanced" "_law_balanced" sBal f fd) (m_enumerate : mg "enumerate" = none) : FnOk P w K mg base CX0 1 f fd ["_law_steps"] (spBal K) := by
  refine F.ok scBal (fun vs H Q E h => ?_) (fun cdv A outer s H vs Q E hr h => ?_)
  · obtain ⟨l, xs, ss, rfl, _⟩ := h
    rfl
  · obtain ⟨l, xs, ss, rfl, hx, hss, hg, hz, q⟩ := h
    refine ⟨_, (pss_cons (ps_set (i := 1) scBal.nd rfl (.inl rfl) (pe_lst pa_nil))
       (pss_cons (ps_for PassesOwn.never rfl (pi_enum rfl m_enumerate (pa_cons (pv 0) pa_nil)) (pg_tup rfl (pgs_cons (pg_name (i := 2) scBal.nd rfl (.inl rfl)) (pgs_cons (pg_tup rfl (pgs_cons (pg_name (i := 3) scBal.nd rfl (.inl rfl)) (pgs_cons (pg_name (i := 4) scBal.nd rfl (.inl rfl)) pgs_nil))) pgs_nil)))
       (pss_cons (ps_if (PW.pt (pw_and (pt_cmpR op_eq (pv 3) pe_str (nomark _)) (pw_and1 (PW.pt (pw_or (pt_cmpR (op_in_seqKK (K := K) rfl) (pv 4) (pv 1) (by rfl)) (pw_or1 (pt_cmpR (op_notInD hr.units65) (pe_tup (pa_cons pe_str (pa_cons (pv 4) pa_nil))) (pe_slice sl_list (pv 0) (po_some (pe_op op_add (pv 2) pe_int)) po_none) (by rfl))))))))
       (pss_one (ps_ret pe_bl))
       pss_nil)
       (pss_cons (ps_if (PW.pt (pw_and (pt_cmpR op_eq (pv 3) pe_str (nomark _)) (pw_and1 (PW.pt (pw_or (pt_cmpR (Nm.op_eqDK (K := K) rfl hr.units) (pv 1) (pe_lst pa_nil) (nomark _)) (pw_or1 (pt_cmpR op_ne (pe_ix (ix_listK (K := K) rfl) (pv 1) (pe_un un_neg pe_int) (fun _ _ => rfl)) (pv 4) (nomark _))))))))
       (pss_one (ps_ret pe_bl))
       pss_nil)
       (pss_one (ps_set (i := 1) scBal.nd rfl (.inl rfl) (pe_ifExp (pt_cmpR op_eq (pv 3) pe_str (nomark _))
       (pe_op op_cat (pv 1) (pe_lst (pa_cons (pv 4) pa_nil)))
       (pe_ifExp (pt_cmpR op_eq (pv 3) pe_str (nomark _))
       (pe_slice sl_list (pv 1) po_none (po_some (pe_un un_neg pe_int)))
       (pv 1))))))))
       (pss_one (ps_ret pe_bl)))), ?_⟩
    refine ⟨Nat.zero_le _, fun o0 no0 => ?_⟩
    have s1 := same_upd (o := HO.lst []) no0
    have len := hss.length
    refine ⟨_, rfl, l, _, rfl, s1.seq hx, for_enum (K := K) (a := l) (xs := xs)
      (fun i σ H' => ∃ (u : Addr) (v2 v3 v4 : Option V), σ = [some (.ref l), some (.ref u), v2, v3, v4] ∧ Same H H' ∧ H' u = some (.lst ((after (ss.take i) []).map V.str)) ∧ ∀ j, j < i → (wrongs ss [] [])[j]? = some false)
      ⟨o0, none, none, none, rfl, s1, upd_same, fun j hj => absurd hj (Nat.not_lt_zero j)⟩ ?_ ?_ ?_⟩
    · rintro i σ H' hi ⟨u, v2, v3, v4, rfl, sm, _⟩
      exact sm.seq hx
    · rintro i x σ H1 T1 hxi ⟨u, v2, v3, v4, rfl, sm, hu, al⟩ nT
      obtain ⟨st, hst, p, rfl, sa⟩ := hss.get hxi
      have gs := hg st (List.mem_of_getElem? hst)
      have hi : i < ss.length := (List.getElem?_eq_some_iff.mp hst).1
      have u0 := same_upd (o := .tup [.int (i : Nat), .ref p]) nT
      have e0 : (upd H1 T1 (.tup [.int (i : Nat), .ref p])) T1 = some (.tup [.int (i : Nat), .ref p]) := upd_same
      generalize upd H1 T1 (.tup [.int (i : Nat), .ref p]) = H2 at u0 e0
      have sm2 := sm.trans u0
      have hu2 := u0 _ _ hu
      have ol := after_len (ss.take i) []
      rw [List.length_take, List.length_nil] at ol
      have wg := wrongs_get ss [] [] i st hst
      have own_ok : ∀ n ∈ after (ss.take i) [], sOk n := after_ok _ _ (fun n hn => nomatch hn) fun z hz => (hg z (List.mem_of_mem_take hz)).ok2
      have nxt : after (ss.take (i + 1)) [] = behind st (after (ss.take i) []) := by rw [take_snoc hst, after_snoc]
      generalize after (ss.take i) [] = own at hu2 ol wg own_ok nxt
      have found : wrongS st (ss.drop (i + 1)) [] own = true → goodR ss = false := fun ht => by
        rw [ht] at wg
        unfold goodR
        rw [List.any_eq_true.mpr ⟨true, List.mem_of_getElem? wg, rfl⟩]
        rfl
      have going : wrongS st (ss.drop (i + 1)) [] own = false → ∀ j, j < i + 1 → (wrongs ss [] [])[j]? = some false := fun hf j hj => by
        by_cases e : j = i
        · rw [e, wg, hf]
        · exact al j (by omega)
      refine ⟨T1, _, rfl, SqT.of e0, rfl, _, _, rfl, _, _, rfl, p, _, rfl, sm2.tupS sa, rfl, _, _, rfl, _, _, rfl, rfl, rfl, ?_⟩
      refine ⟨_, rfl, rfl, _, rfl, ?_⟩
      rw [dec_str]
      by_cases h1 : st.1 = "take"
      · have h2 : st.1 ≠ "give" := by rw [h1]; decide +kernel
        have hw : wrongS st (ss.drop (i + 1)) [] own = if st.2 ∈ own then true else !decide ((("give" : Str), st.2) ∈ ss.drop (i + 1)) := by
          unfold wrongS
          rw [if_neg h2, if_pos h1]
          rfl
        have hb : behind st own = own ++ [st.2] := if_pos h1
        rw [decide_eq_true h1]
        refine iteT ⟨_, rfl, _, rfl, u, _, rfl, .inl (SqL.of hu2), rfl, flat_txt _, _, rfl, ?_⟩
        show if inV (.str st.2) (own.map V.str) = true then _ else _
        rw [inV_txt]
        by_cases h3 : st.2 ∈ own
        · rw [decide_eq_true h3]
          have q2 := q H2 sm2
          rw [found (by rw [hw, if_pos h3])] at q2
          exact iteT (iteT q2)
        · rw [decide_eq_false h3]
          rw [if_neg h3] at hw
          refine iteF ?_
          refine ⟨_, rfl, by show 2 ≤ sizeLine; decide, fun y ny => ?_⟩
          have s3 := same_upd (o := HO.tup [V.str "give", V.str st.2]) ny
          have hy : StepAt K (upd H2 y (.tup [V.str "give", V.str st.2])) (.ref y) (("give" : Str), st.2) := ⟨y, rfl, SqT.of upd_same⟩
          refine ⟨_, rfl, _, rfl, _, _, rfl, rfl, _, rfl, ?_⟩
          dsimp only [tNoPart]
          refine ⟨l, xs, rfl, (sm2.trans s3).seq hx, fun z nz => ?_⟩
          rw [cut_tail xs i (by omega)]
          have s4 := same_upd (o := HO.lst (xs.drop (i + 1))) nz
          have s34 := s3.trans s4
          have hz2 : SqL K (upd (upd H2 y (.tup [V.str "give", V.str st.2])) z (.lst (xs.drop (i + 1)))) z (xs.drop (i + 1)) := SqL.of upd_same
          have hy2 := hy.same s4
          generalize upd (upd H2 y (.tup [V.str "give", V.str st.2])) z (.lst (xs.drop (i + 1))) = H4 at s4 s34 hz2 hy2
          refine ⟨stepD (("give" : Str), st.2), (ss.drop (i + 1)).map stepD, hy2.dp, .lst hz2 (StepsAt.same (sm2.trans s34) (hss.drop (i + 1))).dp, txtD_shaped (give_good gs.ok2).all, stepsL_shaped (fun z hz => hg z (List.mem_of_mem_drop hz)), _, rfl, ?_⟩
          rw [any_step]
          cases h4 : (!decide ((("give" : Str), st.2) ∈ ss.drop (i + 1))) with
          | true =>
            have q2 := q H4 (sm2.trans s34)
            rw [found (by rw [hw, h4])] at q2
            exact iteT q2
          | false =>
            refine iteF ?_
            refine ⟨_, rfl, rfl, _, rfl, ?_⟩
            rw [dec_str, decide_eq_false h2]
            refine iteF (iteF ?_)
            refine ⟨_, rfl, rfl, _, rfl, ?_⟩
            rw [dec_str, decide_eq_true h1]
            refine iteT ?_
            refine ⟨_, rfl, _, rfl, by show 1 ≤ sizeLine; decide, fun o1 no1 => ?_⟩
            have s5 := same_upd (o := HO.lst [V.str st.2]) no1
            refine ⟨u, o1, _, _, rfl, rfl, s5 _ _ (s34 _ _ hu2), upd_same, ?_, fun o2 no2 => ?_⟩
            · rw [List.length_map, sizeLine_eq]
              show own.length + 1 ≤ _
              omega
            have s6 := same_upd (o := HO.lst (own.map V.str ++ [V.str st.2])) no2
            refine ⟨o2, _, _, _, rfl, (sm2.trans s34).trans (s5.trans s6), ?_, going (by rw [hw, h4])⟩
            rw [upd_same, nxt, hb, List.map_append]
            rfl
      · rw [decide_eq_false h1]
        refine iteF (iteF ?_)
        refine ⟨_, rfl, rfl, _, rfl, ?_⟩
        rw [dec_str]
        by_cases h2 : st.1 = "give"
        · have hw : wrongS st (ss.drop (i + 1)) [] own = !decide (own.drop (own.length - 1) = [st.2]) := by
            unfold wrongS
            rw [if_pos h2]
          have hb : behind st own = own.dropLast := by
            unfold behind
            rw [if_neg h1, if_pos h2]
          rw [decide_eq_true h2]
          refine iteT ⟨_, rfl, Nat.zero_le _, fun t nt => ?_⟩
          have s3 := same_upd (o := HO.lst []) nt
          have ht : SqL K (upd H2 t (.lst [])) t [] := SqL.of upd_same
          have hu3 := s3 _ _ hu2
          generalize upd H2 t (.lst []) = H3 at s3 ht hu3
          refine ⟨.list (own.map PyData.str), .list (([] : List Str).map PyData.str), .lst (SqL.of hu3) (dp_txts _), .lst ht .nil, listD_shaped own_ok, listD_shaped (fun n hn => nomatch hn), _, rfl, ?_⟩
          rw [eqv_list_txt]
          rcases List.eq_nil_or_concat own with e | ⟨L, b, e⟩
          · rw [decide_eq_true e]
            have q2 := q H3 (sm2.trans s3)
            rw [found (by rw [hw, e]; rfl)] at q2
            exact iteT (iteT q2)
          · have e' : own = L ++ [b] := by simpa using e
            have ne : own ≠ [] := by
              rw [e']
              simp
            rw [decide_eq_false ne]
            refine iteF ?_
            have dl : own.drop (own.length - 1) = [b] := by
              rw [e', List.length_append]
              show (L ++ [b]).drop (L.length + 1 - 1) = [b]
              rw [Nat.add_sub_cancel, List.drop_left]
            rw [dl] at hw
            have lst : atI (own.map V.str) (-1) = some (V.str b) := by
              rw [e', List.map_append]
              exact atI_last _ _
            refine ⟨_, rfl, _, rfl, u, _, _, _, rfl, rfl, SqL.of hu3, lst, _, rfl, rfl, _, rfl, ?_⟩
            rw [dec_str]
            by_cases h3 : b = st.2
            · rw [decide_eq_true h3]
              refine iteF ?_
              refine ⟨_, rfl, rfl, _, rfl, ?_⟩
              rw [dec_str, decide_eq_false h1]
              refine iteF ?_
              refine ⟨_, rfl, rfl, _, rfl, ?_⟩
              rw [dec_str, decide_eq_true h2]
              refine iteT ⟨_, rfl, _, rfl, _, rfl, ?_⟩
              dsimp only [tNoPart]
              refine ⟨u, _, rfl, SqL.of hu3, fun o2 no2 => ?_⟩
              have s6 := same_upd (o := HO.lst (cutV (own.map V.str) none (some (-1)))) no2
              refine ⟨o2, _, _, _, rfl, (sm2.trans s3).trans s6, ?_, going (by rw [hw, h3]; simp)⟩
              rw [upd_same, nxt, hb, cut_m1, List.map_dropLast]
            · rw [decide_eq_false h3]
              have q2 := q H3 (sm2.trans s3)
              rw [found (by rw [hw, decide_eq_false]; rfl; intro z; exact h3 (List.cons.inj z).1)] at q2
              exact iteT q2
        · have hw : wrongS st (ss.drop (i + 1)) [] own = false := by
            unfold wrongS
            rw [if_neg h2, if_neg h1]
          have hb : behind st own = own := by
            unfold behind
            rw [if_neg h1, if_neg h2]
          rw [decide_eq_false h2]
          refine iteF (iteF ?_)
          refine ⟨_, rfl, rfl, _, rfl, ?_⟩
          rw [dec_str, decide_eq_false h1]
          refine iteF ?_
          refine ⟨_, rfl, rfl, _, rfl, ?_⟩
          rw [dec_str, decide_eq_false h2]
          refine iteF ⟨_, rfl, u, _, _, _, rfl, sm2, ?_, going hw⟩
          rw [nxt, hb]
          exact hu2
    · rintro σ H1 ⟨u, v2, v3, v4, rfl, sm, hu, al⟩
      have e2 : goodR ss = true := by
        unfold goodR
        rw [Bool.not_eq_true', List.any_eq_false]
        intro x hx
        obtain ⟨j, hj⟩ := List.getElem?_of_mem hx
        have hj2 : j < xs.length := by
          rw [len, ← wrongs_len ss [] []]
          exact (List.getElem?_eq_some_iff.mp hj).1
        have z := al j hj2
        rw [hj] at z
        rw [Option.some.inj z]
        exact Bool.false_ne_true
      have q2 := q H1 sm
      rw [e2] at q2
      exact q2
end
end Rw

/-! U8 -/
/-! ### the law's own listing -/
namespace Rw
open PySem PySem.Spec PyProof.Rows L2
def ext1 (ss t : List Step) : List (List Step) := (ss.filter fun s => decide (s ∉ t)).map fun s => t ++ [s]
def lvl (ss : List Step) : Nat → List (List Step)
  | 0 => [[]]
  | k + 1 => (lvl ss k).flatMap (ext1 ss)
def allUp (ss : List Step) (k : Nat) : List (List Step) := (List.range k).flatMap (lvl ss)
theorem allUp_succ (ss : List Step) (k : Nat) : allUp ss (k + 1) = allUp ss k ++ lvl ss k := by
  unfold allUp
  rw [List.range_succ, List.flatMap_append]
  simp
theorem ext1_len (ss t : List Step) : (ext1 ss t).length ≤ ss.length := by
  unfold ext1
  rw [List.length_map]
  exact List.length_filter_le _ _
theorem ext1_snoc (ss t : List Step) (s : Step) : ext1 (ss ++ [s]) t = ext1 ss t ++ if s ∈ t then [] else [t ++ [s]] := by
  unfold ext1
  rw [List.filter_append, List.map_append]
  by_cases h : s ∈ t
  · rw [if_pos h, List.filter_cons_of_neg (by simpa using h)]; rfl
  · rw [if_neg h, List.filter_cons_of_pos (by simpa using h)]; rfl
theorem flat_len {α β : Type} (f : α → List β) (n : Nat) (h : ∀ a, (f a).length ≤ n) : ∀ l : List α, (l.flatMap f).length ≤ l.length * n
  | [] => Nat.zero_le _
  | a :: l => by
    have i := flat_len f n h l
    have z := h a
    rw [List.flatMap_cons, List.length_append, List.length_cons, Nat.add_mul, Nat.one_mul]
    omega
theorem flat_snoc {α β : Type} (f : α → List β) (l : List α) (a : α) : (l ++ [a]).flatMap f = l.flatMap f ++ f a := by
  rw [List.flatMap_append]
  simp
theorem lvl_len (ss : List Step) : ∀ k, (lvl ss k).length ≤ ss.length ^ k
  | 0 => Nat.le_refl _
  | k + 1 => by
    have h := lvl_len ss k
    have h2 := flat_len (ext1 ss) ss.length (ext1_len ss) (lvl ss k)
    show ((lvl ss k).flatMap (ext1 ss)).length ≤ ss.length ^ (k + 1)
    rw [Nat.pow_succ]
    exact Nat.le_trans h2 (Nat.mul_le_mul_right _ h)
theorem lvl_bound {ss : List Step} (h6 : ss.length ≤ 6) {k : Nat} (hk : k ≤ 6) : (lvl ss k).length ≤ 46656 := by
  refine Nat.le_trans (lvl_len ss k) (Nat.le_trans (Nat.pow_le_pow_left h6 k) ?_)
  exact Nat.le_trans (Nat.pow_le_pow_right (by decide) hk) (by decide)
theorem allUp_bound {ss : List Step} (h6 : ss.length ≤ 6) : ∀ k, k ≤ 7 → (allUp ss k).length ≤ k * 46656
  | 0, _ => Nat.zero_le _
  | k + 1, h => by
    have ih := allUp_bound h6 k (by omega)
    have b := lvl_bound h6 (show k ≤ 6 by omega)
    rw [allUp_succ, List.length_append, Nat.add_mul]
    omega
theorem lvl_mem (ss : List Step) : ∀ k, ∀ t ∈ lvl ss k, t.length = k ∧ ∀ s ∈ t, s ∈ ss
  | 0, t, h => by
    obtain rfl : t = [] := by simpa [lvl] using h
    exact ⟨rfl, fun s hs => by cases hs⟩
  | k + 1, t, h => by
    have h : t ∈ (lvl ss k).flatMap (ext1 ss) := h
    obtain ⟨b, hb, hc⟩ := List.mem_flatMap.mp h
    obtain ⟨s, hs, rfl⟩ := List.mem_map.mp hc
    obtain ⟨h1, h2⟩ := lvl_mem ss k b hb
    refine ⟨by rw [List.length_append, h1]; rfl, fun j hj => ?_⟩
    rcases List.mem_append.mp hj with hj | hj
    · exact h2 j hj
    · rw [List.mem_singleton.mp hj]; exact (List.mem_filter.mp hs).1
theorem allUp_mem {ss : List Step} {k : Nat} {t : List Step} (h : t ∈ allUp ss k) : t.length < k ∧ ∀ s ∈ t, s ∈ ss := by
  obtain ⟨j, hj, ht⟩ := List.mem_flatMap.mp h
  obtain ⟨h1, h2⟩ := lvl_mem ss j t ht
  exact ⟨by rw [h1]; exact List.mem_range.mp hj, h2⟩
def listed (ss : List Step) (L : Nat) : List (List Step) := (allUp ss (L + 1)).filter goodR
/-! the rows by indexes are the rows by steps -/
theorem tkn_snoc {ss : List Step} {c : List Nat} {i : Nat} {s : Step} (h : ss[i]? = some s) : tkn ss (c ++ [i]) = tkn ss c ++ [s] := by
  unfold tkn
  rw [List.filterMap_append, List.filterMap_cons_some h]
  rfl
theorem mem_tkn {ss : List Step} (nd : ss.Nodup) {c : List Nat} {i : Nat} {s : Step} (h : ss[i]? = some s) : s ∈ tkn ss c ↔ i ∈ c := by
  unfold tkn
  rw [List.mem_filterMap]
  constructor
  · rintro ⟨j, hj, e⟩
    have hi := (List.getElem?_eq_some_iff.mp h).1
    have z : ss[i]? = ss[j]? := by rw [h, e]
    rw [(List.getElem?_inj hi nd).mp z]
    exact hj
  · intro hi
    exact ⟨i, hi, h⟩
theorem more_ext {ss : List Step} (nd : ss.Nodup) (c : List Nat) : ∀ k, k ≤ ss.length → (more1 c k).map (tkn ss) = ext1 (ss.take k) (tkn ss c)
  | 0, _ => rfl
  | k + 1, h => by
    have hk : k < ss.length := h
    have e : ss[k]? = some ss[k] := List.getElem?_eq_getElem hk
    rw [more1_snoc, List.map_append, more_ext nd c k (Nat.le_of_lt hk), take_snoc e, ext1_snoc]
    congr 1
    by_cases hm : k ∈ c
    · rw [if_pos hm, if_pos ((mem_tkn nd e).mpr hm)]; rfl
    · rw [if_neg hm, if_neg (fun z => hm ((mem_tkn nd e).mp z)), List.map_cons, List.map_nil, tkn_snoc e]
theorem lev_lvl {ss : List Step} (nd : ss.Nodup) : ∀ k, (lev ss.length k).map (tkn ss) = lvl ss k
  | 0 => rfl
  | k + 1 => by
    show ((lev ss.length k).flatMap fun c => more1 c ss.length).map (tkn ss) = (lvl ss k).flatMap (ext1 ss)
    rw [← lev_lvl nd k, List.map_flatMap, List.flatMap_map]
    congr 1
    funext c
    rw [more_ext nd c ss.length (Nat.le_refl _), List.take_length]
theorem rows_listed {ss : List Step} (nd : ss.Nodup) (L : Nat) : rowsUp ss (L + 1) = listed ss L := by
  unfold rowsUp listed allUp
  rw [List.filter_flatMap]
  congr 1
  funext j
  rw [lev_lvl nd j]
end Rw

/-! U9 -/
namespace L2
open PySem PySem.Spec PyProof.Rows
theorem op_notInDK {X : Cx} {K : PySem.W.Frag} (hK : X.K = K) (hu : X.A.units + 65 < cLine) : OpR X (compareOp .NotIn) (rNotInD K) := by
  subst hK
  exact op_notInD hu
end L2
/-! ### the law's own listing: the def -/
namespace Rw
open PySem PySem.Spec PyProof.Rows L2
theorem same_del {H H' : Hp} {D : Addr} (n : H D = none) (s : Same H H') : Same H (del H' D) := fun b o e => by
  have z : b ≠ D := ne_of_none e n
  show (if b = D then none else H' b) = some o
  rw [if_neg z]
  exact s b o e
theorem del_sub {H : Hp} {D : Addr} : Same (del H D) H := fun b o e => by
  have e : (if b = D then none else H b) = some o := e
  split at e
  · cases e
  · exact e
theorem del_mono {H H' : Hp} {D : Addr} (s : Same H H') : Same (del H D) (del H' D) := fun b o e => by
  have e : (if b = D then none else H b) = some o := e
  show (if b = D then none else H' b) = some o
  by_cases z : b = D
  · rw [if_pos z] at e; cases e
  · rw [if_neg z] at e ⊢
    exact s b o e
theorem del_upd {H : Hp} {D : Addr} {u : HO} : del (upd H D u) D = del H D := by
  funext b
  show (if b = D then none else upd H D u b) = if b = D then none else H b
  by_cases z : b = D
  · rw [if_pos z, if_pos z]
  · rw [if_neg z, if_neg z, upd_ne z]
theorem LstS.good {K : PySem.W.Frag} {d : Addr} {H : Hp} {v : V} {t : List Step} (h : LstS K d H v t) : ∀ s ∈ t, GoodS s := let ⟨_, _, _, _, r⟩ := h; row_good r
def spListed (K : PySem.W.Frag) (d : Addr) : Sp := fun vs H Q _ => ∃ (a : Addr) (xs : List V) (ss : List Step) (L : Nat), vs = [.ref a, natV L] ∧ SqL K H a xs ∧ RowAt K d H xs ss ∧ ss.length ≤ 6 ∧ L ≤ 6 ∧
  ∀ H' p ys, Same H H' → H p = none → H' p = some (.lst ys) → All2 (LstS K d H') ys (listed ss L) → Q (.ref p) H'
section
variable {P : Program} {w : World} {K : PySem.W.Frag} {mg : Str → Option Value} {base : Heap}
abbrev sLst : Stmt := top 44
theorem scLst : FnScope ["_law_stock", "_law_longest", "_law_line", "_law_found", "_law_turn", "_law_more", "_law_row", "_law_step"] ["_law_stock", "_law_longest"] (defScope sLst) := ⟨rfl, rfl, rfl, by decide +kernel, rfl, by decide +kernel, by decide +kernel⟩
theorem ok_listed {f fB d : Addr} {fd fdB : FuncData} (F : Fun K "_law_listed" "_law_listed" sLst f fd) (GB : FnOk P w K mg base CX0 1 fB fdB ["_law_steps"] (spBal K)) (TB : Called K mg "_law_balanced" ["_law_steps"] fB fdB) (m_range : mg "range" = none) :
    FnOk P w K mg base CX0 2 f fd ["_law_stock", "_law_longest"] (spListed K d) := by
  refine F.ok scLst (fun vs H Q E h => ?_) (fun cdv A outer s H vs Q E hr h => ?_)
  · obtain ⟨a, xs, ss, L, rfl, _⟩ := h
    rfl
  · obtain ⟨a, xs, ss, L, rfl, hx, hrow, h6, hL, q⟩ := h
    refine ⟨_, (pss_cons (ps_par (i := 2) (j := 3) rfl scLst.nd rfl rfl (by decide) rfl rfl (pa_cons (pe_lst (pa_cons (pe_lst pa_nil) pa_nil)) (pa_cons (pe_lst (pa_cons (pe_lst pa_nil) pa_nil)) pa_nil)) (by rfl))
       (pss_cons (ps_for PassesOwn.never rfl (pi_range1 rfl m_range (pa_cons (pv 1) pa_nil)) (pg_name (i := 4) scLst.nd rfl (.inl rfl))
       (pss_cons (ps_set (i := 5) scLst.nd rfl (.inl rfl) (pe_lst pa_nil))
       (pss_cons (ps_for PassesOwn.never rfl (pi_list (pv 2)) (pg_name (i := 6) scLst.nd rfl (.inr rfl))
       (pss_one (ps_set (i := 5) scLst.nd rfl (.inl rfl) (pe_op op_cat (pv 5) (pe_lc (own := [("_law_step", 7)]) (g := gName 7)  (by rfl) scLst.nd (pi_list (pv 0)) (blkOk_by (own := [("_law_step", 7)]) (N := ["_law_stock", "_law_longest", "_law_line", "_law_found", "_law_turn", "_law_more", "_law_row", "_law_step"]) (sc := defScope sLst) (by decide +kernel)) (fun _ _ _ _ _ => (pg_name (i := 7) scLst.nd rfl (Or.inl rfl))) (fun _ _ _ _ _ => (pts_one (pt_cmpR (op_notInDK (K := K) rfl (by first | exact hr.units65 | exact hr.in1.units65)) (pv 7) (pv 6) (by rfl)))) (fun _ _ _ _ _ => (pe_op op_cat (pv 6) (pe_lst (pa_cons (pv 7) pa_nil)))))))))
       (pss_cons (ps_set (i := 2) scLst.nd rfl (.inl rfl) (pv 5))
       (pss_one (ps_set (i := 3) scLst.nd rfl (.inl rfl) (pe_op op_cat (pv 3) (pv 2))))))))
       (pss_one (ps_ret (pe_lc (own := [("_law_row", 6)]) (g := gName 6)  (by rfl) scLst.nd (pi_list (pv 3)) (blkOk_by (own := [("_law_row", 6)]) (N := ["_law_stock", "_law_longest", "_law_line", "_law_found", "_law_turn", "_law_more", "_law_row", "_law_step"]) (sc := defScope sLst) (by decide +kernel)) (fun _ _ _ _ _ => (pg_name (i := 6) scLst.nd rfl (Or.inl rfl))) (fun _ _ _ _ _ => (pts_one (pt_val (pe_call GB (hr.mono (by first | decide | omega)) rfl TB.1 TB.2.1 TB.2.2 .nil pass0 (pa_cons (pv 6) pa_nil))))) (fun _ _ _ _ _ => (pv 6))))))), ?_⟩
    have lxs := hrow.length
    refine ⟨Nat.zero_le _, fun p1 n1 => ⟨by show 1 ≤ sizeLine; decide, fun p2 n2 => ⟨Nat.zero_le _, fun p3 n3 => ⟨by show 1 ≤ sizeLine; decide, fun p4 n4 => ⟨_, _, rfl, ?_⟩⟩⟩⟩⟩
    have s1 := same_upd (o := HO.lst []) n1
    have s2 := same_upd (o := HO.lst [V.ref p1]) n2
    have s3 := same_upd (o := HO.lst []) n3
    have s4 := same_upd (o := HO.lst [V.ref p3]) n4
    have s14 := ((s1.trans s2).trans s3).trans s4
    have e1 := s4 _ _ (s3 _ _ (s2 _ _ (upd_same (H := H) (a := p1) (o := HO.lst []))))
    have e2 := s4 _ _ (s3 _ _ (upd_same (H := upd H p1 (.lst [])) (a := p2) (o := HO.lst [V.ref p1])))
    have e3 := s4 _ _ (upd_same (H := upd (upd H p1 (.lst [])) p2 (.lst [V.ref p1])) (a := p3) (o := HO.lst []))
    have e4 := upd_same (H := upd (upd (upd H p1 (.lst [])) p2 (.lst [V.ref p1])) p3 (.lst [])) (a := p4) (o := HO.lst [V.ref p3])
    generalize upd (upd (upd (upd H p1 (.lst [])) p2 (.lst [V.ref p1])) p3 (.lst [])) p4 (.lst [V.ref p3]) = H4 at s14 e1 e2 e3 e4
    refine ⟨_, rfl, (L : Int), rfl, by omega, by omega, ?_⟩
    rw [Int.toNat_natCast]
    refine for_range (fun i σ H' => ∃ (ln fn : Addr) (zs ys : List V) (a4 a5 a6 a7 : Option V), σ = [some (.ref a), some (natV L), some (.ref ln), some (.ref fn), a4, a5, a6, a7] ∧ Same H H' ∧ H' ln = some (.lst zs) ∧ H' fn = some (.lst ys) ∧ All2 (LstS K d H') zs (lvl ss i) ∧ All2 (LstS K d H') ys (allUp ss (i + 1)))
      ⟨p2, p4, _, _, none, none, none, none, rfl, s14, e2, e4, .cons ⟨p1, [], rfl, e1, .nil⟩ .nil, .cons ⟨p3, [], rfl, e3, .nil⟩ .nil⟩ ?_ ?_
    · rintro i σ H5 hi ⟨ln, fn, zs, ys, a4, a5, a6, a7, rfl, s5, el, ef, hzs, hys⟩
      have lz := hzs.length
      have ly := hys.length
      have lb := lvl_bound h6 (show i ≤ 6 by omega)
      have ab := allUp_bound h6 (i + 1) (by omega)
      have lb2 := lvl_bound h6 (show i + 1 ≤ 6 by omega)
      refine ⟨Nat.zero_le _, fun m0 nm => ?_⟩
      have s6 := same_upd (o := HO.lst []) nm
      have em : (upd H5 m0 (.lst [])) m0 = some (.lst []) := upd_same
      generalize upd H5 m0 (.lst []) = H6 at s6 em
      refine ⟨_, rfl, ln, rfl, ⟨_, SqL.of (s6 _ _ el)⟩, for_list (K := K) (a := ln) (xs := zs) (fun j σ H' => ∃ (mo : Addr) (us : List V) (a6 a7 : Option V), σ = [some (.ref a), some (natV L), some (.ref ln), some (.ref fn), some (.int (0 + i)), some (.ref mo), a6, a7] ∧ Same H6 H' ∧ H' mo = some (.lst us) ∧ All2 (LstS K d H') us (((lvl ss i).take j).flatMap (ext1 ss)))
        ⟨m0, _, _, _, rfl, Same.refl _, em, .nil⟩ (fun j σ H' _ ⟨_, _, _, _, _, z, _⟩ => z.seq (SqL.of (s6 _ _ el))) ?_ ?_⟩
      · rintro j x σ H7 hx7 ⟨mo, us, b6, b7, rfl, s7, emo, hus⟩
        obtain ⟨t, ht, hv⟩ := hzs.get hx7
        obtain ⟨rp, rxs, rfl, er, rr⟩ := hv.same (s6.trans s7)
        have lrr := rr.length
        have tl := (lvl_mem ss i t (List.mem_of_getElem? ht)).1
        have hj : j < (lvl ss i).length := (List.getElem?_eq_some_iff.mp ht).1
        have s07 := s5.trans (s6.trans s7)
        have lus := hus.length
        have fl := flat_len (ext1 ss) ss.length (ext1_len ss) ((lvl ss i).take j)
        rw [List.length_take] at fl
        have fb : (((lvl ss i).take j).flatMap (ext1 ss)).length ≤ 46656 * 6 := Nat.le_trans fl (Nat.mul_le_mul (by omega) h6)
        refine ⟨_, rfl, _, rfl, a, rfl, ⟨_, s07.seq hx⟩, fun D nD => lc_list (K := K) (a := a) (xs := xs) (fun k H' => ∃ ws, Same H7 H' ∧ H' D = some (.lst ws) ∧ All2 (LstS K d (del H' D)) ws (ext1 (ss.take k) t)) ⟨[], same_upd nD, upd_same, .nil⟩ (fun k H' _ ⟨_, z, _⟩ => (s07.trans z).seq hx) ?_ ?_⟩
        · rintro k y H8 hy ⟨ws, s8, e8, hws⟩
          obtain ⟨st, hst, hvy⟩ := hrow.get hy
          have lws := hws.length
          have le := ext1_len (ss.take k) t
          rw [List.length_take] at le
          have hgs : GoodS st := hvy.2 st rfl
          refine ⟨rfl, _, rfl, _, rfl, stepD st, t.map stepD, (StepAt.same (s07.trans s8) hvy.1.step).dp, .lst (SqL.of (s8 _ _ er)) (StepsAt.same s8 (row_steps rr)).dp, txtD_shaped hgs.all, stepsL_shaped (row_good rr), _, rfl, ?_⟩
          rw [any_step]
          by_cases h : st ∈ t
          · rw [decide_eq_true h]
            refine iteF ⟨ws, s8, e8, ?_⟩
            rw [take_snoc hst, ext1_snoc, if_pos h, List.append_nil]
            exact hws
          · rw [decide_eq_false h]
            refine iteT ⟨_, rfl, _, rfl, by show 1 ≤ sizeLine; decide, fun o1 no1 => ?_⟩
            have s9 := same_upd (o := HO.lst [y]) no1
            have e9 : (upd H8 o1 (.lst [y])) o1 = some (.lst [y]) := upd_same
            generalize upd H8 o1 (.lst [y]) = H9 at s9 e9
            refine ⟨rp, o1, _, _, rfl, rfl, s9 _ _ (s8 _ _ er), e9, ?_, fun o2 no2 => ?_⟩
            · rw [lrr, tl, sizeLine_eq]
              show i + 1 ≤ _
              omega
            have s10 := same_upd (o := HO.lst (rxs ++ [y])) no2
            have e10 : (upd H9 o2 (.lst (rxs ++ [y]))) o2 = some (.lst (rxs ++ [y])) := upd_same
            have nD2 : o2 ≠ D := fun z => by rw [z, s9 _ _ e8] at no2; cases no2
            generalize upd H9 o2 (.lst (rxs ++ [y])) = H10 at s10 e10
            have s810 := s9.trans s10
            refine ⟨ws, s810 _ _ e8, by rw [lws, sizeLine_eq]; omega, ws ++ [.ref o2], same_updN nD (s8.trans s810), upd_same, ?_⟩
            rw [del_upd, take_snoc hst, ext1_snoc, if_neg h]
            have sD : Same H7 (del H10 D) := same_del nD (s8.trans s810)
            have eD : (del H10 D) o2 = some (.lst (rxs ++ [y])) := by
              show (if o2 = D then none else H10 o2) = _
              rw [if_neg nD2]
              exact e10
            refine (hws.mono fun _ _ t => t.same (del_mono s810)).append (.cons ⟨o2, _, rfl, eD, (rr.same sD).append (.cons (SVG.same (s07.trans sD) hvy) .nil)⟩ .nil)
        · rintro H8 ⟨ws, s8, e8, hws⟩
          rw [lxs, List.take_length] at hws
          have lws := hws.length
          have le := ext1_len ss t
          refine ⟨mo, D, us, ws, rfl, rfl, s8 _ _ emo, e8, ?_, fun o3 no3 => ?_⟩
          · rw [lus, lws, sizeLine_eq]
            omega
          have s9 := same_upd (o := HO.lst (us ++ ws)) no3
          refine ⟨o3, us ++ ws, _, _, rfl, s7.trans (s8.trans s9), upd_same, ?_⟩
          rw [take_snoc ht, flat_snoc]
          exact (hus.mono fun _ _ t => t.same (s8.trans s9)).append (hws.mono fun _ _ t => t.same (del_sub.trans s9))
      · rintro σ H7 ⟨mo, us, b6, b7, rfl, s7, emo, hus⟩
        rw [lz, List.take_length] at hus
        have hus : All2 (LstS K d H7) us (lvl ss (i + 1)) := hus
        have lus := hus.length
        have s57 := s6.trans s7
        refine ⟨_, rfl, ?_⟩
        refine ⟨_, rfl, _, rfl, fn, mo, ys, us, rfl, rfl, s57 _ _ ef, emo, ?_, fun o3 no3 => ?_⟩
        · rw [ly, lus, sizeLine_eq]
          omega
        have s8 := same_upd (o := HO.lst (ys ++ us)) no3
        refine ⟨mo, o3, us, ys ++ us, _, _, _, _, rfl, s5.trans (s57.trans s8), s8 _ _ emo, upd_same, hus.mono fun _ _ t => t.same s8, ?_⟩
        rw [allUp_succ]
        exact (hys.mono fun _ _ t => t.same (s57.trans s8)).append (hus.mono fun _ _ t => t.same s8)
    · rintro σ H5 ⟨ln, fn, zs, ys, a4, a5, a6, a7, rfl, s5, el, ef, hzs, hys⟩
      have ly := hys.length
      have ab := allUp_bound h6 (L + 1) (by omega)
      refine ⟨_, rfl, fn, rfl, ⟨_, SqL.of ef⟩, fun D nD => lc_list (K := K) (a := fn) (xs := ys) (fun k H' => ∃ ws, Same H5 H' ∧ H' D = some (.lst ws) ∧ All2 (LstS K d H5) ws (((allUp ss (L + 1)).take k).filter goodR)) ⟨[], same_upd nD, upd_same, .nil⟩ (fun k H' _ ⟨_, z, _⟩ => z.seq (SqL.of ef)) ?_ ?_⟩
      · rintro k y H6 hy ⟨ws, s6, e6, hws⟩
        obtain ⟨t, ht, hv⟩ := hys.get hy
        obtain ⟨rp, rxs, rfl, er, rr⟩ := hv
        have tl := (allUp_mem (List.mem_of_getElem? ht)).1
        have lws := hws.length
        have fl := List.length_filter_le goodR ((allUp ss (L + 1)).take k)
        rw [List.length_take] at fl
        refine ⟨rfl, _, rfl, rp, rxs, t, rfl, SqL.of (s6 _ _ er), StepsAt.same s6 (row_steps rr), row_good rr, by omega, fun H7 s7 => ⟨_, rfl, ?_⟩⟩
        rw [take_snoc ht, List.filter_append]
        by_cases hg : goodR t = true
        · rw [hg]
          refine iteT ⟨_, rfl, ws, s7 _ _ e6, by rw [lws, sizeLine_eq]; omega, ws ++ [.ref rp], same_updN nD (s6.trans s7), upd_same, ?_⟩
          rw [List.filter_cons_of_pos hg]
          exact hws.append (.cons ⟨rp, rxs, rfl, er, rr⟩ .nil)
        · have hg2 : goodR t = false := by
            cases z : goodR t with
            | true => exact absurd z hg
            | false => rfl
          rw [hg2]
          refine iteF ⟨ws, s6.trans s7, s7 _ _ e6, ?_⟩
          rw [List.filter_cons_of_neg hg, List.filter_nil, List.append_nil]
          exact hws
      · rintro H6 ⟨ws, s6, e6, hws⟩
        rw [ly, List.take_length] at hws
        exact q H6 D ws (s5.trans s6) (s5.free nD) e6 (hws.mono fun _ _ t => t.same s6)
end
end Rw

/-! U10 -/
namespace L2
open PySem PySem.Spec PyProof.Rows
end L2
/-! ### the lists that the law draws -/
namespace Rw
open PySem PySem.Spec PyProof.Rows L2
theorem get_pool {H H' : Hp} {o qq a : Addr} {u : HO} (b : SameBut o H H') (h : PoolAt H o qq) (e : H a = some u) (hu : ∀ ys, u ≠ .lst ys) : H' a = some u := by
  refine b a u (fun ea => ?_) e
  obtain ⟨at_, ns, h1, _⟩ := h
  rw [ea, h1] at e
  exact hu _ (Option.some.inj e).symm
theorem sqT_pool {K : PySem.W.Frag} {H H' : Hp} {o qq a : Addr} {xs : List V} (b : SameBut o H H') (p : PoolAt H o qq) (h : SqT K H a xs) : SqT K H' a xs := by
  rcases h with (h | ⟨ob, h⟩) | h
  · exact .inl (.inl (get_pool b p h fun _ z => by cases z))
  · exact .inl (.inr ⟨ob, get_pool b p h fun _ z => by cases z⟩)
  · exact .inr h
section
variable {P : Program} {w : World} {K : PySem.W.Frag} {mg : Str → Option Value} {base : Heap}
end
end Rw

/-! ### the rows that the law draws -/
namespace L2
open PySem PySem.Spec PyProof.Rows
end L2
namespace Rw
open PySem PySem.Spec PyProof.Rows L2
theorem svg_pool {K : PySem.W.Frag} {d : Addr} {H H' : Hp} {o q : Addr} (b : SameBut o H H') (p : PoolAt H o q) {v : V} {s : Step} (h : SVG K d H v (some s)) : SVG K d H' v (some s) := by
  refine ⟨?_, h.2⟩
  obtain ⟨h, _⟩ := h
  generalize hs : some s = r at h
  cases h with
  | good a b1 c e =>
    cases hs
    exact .good (sqT_pool b p a) b1 c e
  | _ => cases hs
theorem rowAt_pool {K : PySem.W.Frag} {d : Addr} {H H' : Hp} {o q : Addr} (b : SameBut o H H') (p : PoolAt H o q) {xs : List V} {ss : List Step} (h : RowAt K d H xs ss) : RowAt K d H' xs ss := All2.mono (fun _ _ t => svg_pool b p t) h
section
variable {K : PySem.W.Frag} {d o q : Addr} {H0 : Hp} {wl fl : Addr} {xs : List V} {ss : List Step} {H H' : Hp}
end
end Rw

/-! ### a stock drawn -/
namespace Rw
open PySem PySem.Spec PyProof.Rows L2
def W12 : List Str := ["cancel", "bar", "halt", "settle", "close", "drain", "set", "clear", "take", "give", "take", "give"]
def N3 : List Str := ["a", "b", "ab"]
def N4 : List Str := ["a", "b", "ab", "l"]
def N10 : List Str := ["a", "b", "ab", "l", "c", "d", "e", "f", "g"]
theorem n4_10 {n : Str} (h : n ∈ N4) : n ∈ N10 := by
  simp only [N4, N10, List.mem_cons, List.mem_nil_iff, or_false] at h ⊢
  rcases h with h | h | h | h <;> simp [h]
theorem n3_4 {n : Str} (h : n ∈ N3) : n ∈ N4 := by
  simp only [N3, N4, List.mem_cons, List.mem_nil_iff, or_false] at h ⊢
  rcases h with h | h | h <;> simp [h]
theorem w12_good {w : Str} (h : w ∈ W12) : plainW w ∧ sOk w := by
  simp only [W12, List.mem_cons, List.mem_nil_iff, or_false] at h
  rcases h with rfl | rfl | rfl | rfl | rfl | rfl | rfl | rfl | rfl | rfl | rfl | rfl <;> exact ⟨⟨by decide +kernel, by decide +kernel, by decide +kernel⟩, by decide +kernel⟩
theorem n10_good {n : Str} (h : n ∈ N10) : sOk n ∧ nameB n = true ∧ n.length ≤ 1000000 := by
  simp only [N10, List.mem_cons, List.mem_nil_iff, or_false] at h
  rcases h with rfl | rfl | rfl | rfl | rfl | rfl | rfl | rfl | rfl <;> exact ⟨by decide +kernel, by decide +kernel, by decide +kernel⟩
theorem svg12 {K : PySem.W.Frag} {d : Addr} {H : Hp} (hW : ∀ w ∈ W12, ∃ u, PySem.W.nsIn K d w = some (some u)) {w n : Str} {p : Addr} (hw : w ∈ W12) (hn : n ∈ N10) (hp : SqT K H p [.str w, .str n]) : SVG K d H (.ref p) (some (w, n)) := by
  obtain ⟨u, hu⟩ := hW w hw
  obtain ⟨a, b, c⟩ := n10_good hn
  refine ⟨.good hp hu c b, fun s e => ?_⟩
  cases e
  exact ⟨(w12_good hw).1, (w12_good hw).2, a⟩
structure DrS (K : PySem.W.Frag) (d o qq : Addr) (H0 : Hp) (wl fl : Addr) (xs : List V) (ss : List Step) (H : Hp) : Prop where
  but : SameBut o H0 H
  pool : PoolAt H o qq
  hw : H wl = some (.lst (W12.map V.str))
  hwo : wl ≠ o
  fd : H fl = some (.lst xs)
  hfo : fl ≠ o
  hfn : H0 fl = none
  row : RowAt K d H xs ss
  nd : ss.Nodup
  mem : ∀ s ∈ ss, s.1 ∈ W12 ∧ s.2 ∈ N3
theorem DrS.same {K : PySem.W.Frag} {d o qq : Addr} {H0 H H' : Hp} {wl fl : Addr} {xs : List V} {ss : List Step} (c : DrS K d o qq H0 wl fl xs ss H) (s : Same H H') : DrS K d o qq H0 wl fl xs ss H' :=
  ⟨c.but.trans (but_of s), c.pool.same s, s _ _ c.hw, c.hwo, s _ _ c.fd, c.hfo, c.hfn, c.row.same s, c.nd, c.mem⟩
theorem DrS.draw {K : PySem.W.Frag} {d o qq : Addr} {H0 H H' : Hp} {wl fl : Addr} {xs : List V} {ss : List Step} (c : DrS K d o qq H0 wl fl xs ss H) (b : SameBut o H H') (p : PoolAt H' o qq) : DrS K d o qq H0 wl fl xs ss H' :=
  ⟨c.but.trans b, p, b _ _ c.hwo c.hw, c.hwo, b _ _ c.hfo c.fd, c.hfo, c.hfn, rowAt_pool b c.pool c.row, c.nd, c.mem⟩
/-- a list that another takes the place of -/
theorem DrS.put {K : PySem.W.Frag} {d o qq : Addr} {H0 H H' : Hp} {wl fl f2 : Addr} {xs ys : List V} {ss ts : List Step} (c : DrS K d o qq H0 wl fl xs ss H) (s : Same H H') (n : H f2 = none) (e : H' f2 = some (.lst ys)) (r : RowAt K d H' ys ts) (nd : ts.Nodup) (m : ∀ s ∈ ts, s.1 ∈ W12 ∧ s.2 ∈ N3) : DrS K d o qq H0 wl f2 ys ts H' := by
  have hfo : f2 ≠ o := fun z => by
    obtain ⟨_, _, h1, _⟩ := c.pool
    rw [z, h1] at n; cases n
  refine ⟨c.but.trans (but_of s), c.pool.same s, s _ _ c.hw, c.hwo, e, hfo, ?_, r, nd, m⟩
  cases q : H0 f2 with
  | none => rfl
  | some u =>
    rw [c.but _ _ hfo q] at n
    cases n
def spDrawn (K : PySem.W.Frag) (d : Addr) : Sp := fun vs H Q _ => ∃ (o qq : Addr), vs = [.ref o] ∧ PoolAt H o qq ∧
  ∀ H' p xs ss, SameBut o H H' → PoolAt H' o qq → H p = none → H' p = some (.lst xs) → RowAt K d H' xs ss → ss.Nodup → 1 ≤ ss.length → ss.length ≤ 6 → (∀ s ∈ ss, s.1 ∈ W12 ∧ s.2 ∈ N4) → Q (.ref p) H'
section
variable {P : Program} {w : World} {K : PySem.W.Frag} {mg : Str → Option Value} {base : Heap}
abbrev sDr : Stmt := top 47
theorem scDr : FnScope ["_law_pool_here", "_law_words", "_law_found", "_law_turn", "_law_step"] ["_law_pool_here"] (defScope sDr) := ⟨rfl, rfl, rfl, by decide +kernel, rfl, by decide +kernel, by decide +kernel⟩
theorem ok_drawn {f fD fP d : Addr} {fd fdD fdP : FuncData} (F : Fun K "_law_drawn_stock" "_law_drawn_stock" sDr f fd) (hW : ∀ w ∈ W12, ∃ u, PySem.W.nsIn K d w = some (some u))
    (GD : FnOk P w K mg base CX0 1 fD fdD ["_law_pool_here", "_law_many"] (spDraw K)) (TD : Called K mg "_law_draw" ["_law_pool_here", "_law_many"] fD fdD)
    (GP : FnOk P w K mg base CX0 2 fP fdP ["_law_pool_here", "_law_some"] (spPick K)) (TP : Called K mg "_law_pick" ["_law_pool_here", "_law_some"] fP fdP)
    (m_len : mg "len" = none) (m_range : mg "range" = none) (m_int : mg "int" = none) : FnOk P w K mg base CX0 3 f fd ["_law_pool_here"] (spDrawn K d) := by
  refine F.ok scDr (fun vs H Q E h => ?_) (fun cdv A outer s H vs Q E hr h => ?_)
  · obtain ⟨o, qq, rfl, _⟩ := h
    rfl
  · obtain ⟨o, qq, rfl, hp, q⟩ := h
    refine ⟨_, (pss_cons (ps_set (i := 1) scDr.nd rfl (.inl rfl) (pe_lst (pa_cons pe_str (pa_cons pe_str (pa_cons pe_str (pa_cons pe_str (pa_cons pe_str (pa_cons pe_str (pa_cons pe_str (pa_cons pe_str (pa_cons pe_str (pa_cons pe_str (pa_cons pe_str (pa_cons pe_str pa_nil))))))))))))))
       (pss_cons (ps_set (i := 2) scDr.nd rfl (.inl rfl) (pe_lst pa_nil))
       (pss_cons (ps_for PassesOwn.never rfl (pi_range1 rfl m_range (pa_cons (pe_op op_add pe_int (pe_call GD (hr.mono (by first | decide | omega)) rfl TD.1 TD.2.1 TD.2.2 .nil pass0 (pa_cons (pv 0) (pa_cons pe_int pa_nil)))) pa_nil)) (pg_name (i := 3) scDr.nd rfl (.inl rfl))
       (pss_cons (ps_set (i := 4) scDr.nd rfl (.inl rfl) (pe_tup (pa_cons (pe_call GP (hr.mono (by first | decide | omega)) rfl TP.1 TP.2.1 TP.2.2 .nil pass0 (pa_cons (pv 0) (pa_cons (pv 1) pa_nil))) (pa_cons (pe_call GP (hr.mono (by first | decide | omega)) rfl TP.1 TP.2.1 TP.2.2 .nil pass0 (pa_cons (pv 0) (pa_cons (pe_lst (pa_cons pe_str (pa_cons pe_str (pa_cons pe_str pa_nil)))) pa_nil))) pa_nil))))
       (pss_one (ps_set (i := 2) scDr.nd rfl (.inl rfl) (pe_op op_cat (pv 2) (pe_op op_rep (pe_lst (pa_cons (pv 4) pa_nil)) (pe_callTy call_int1 (by rfl) m_int (by decide +kernel) (pa_cons (pe_cmpR (op_notInDK (K := K) rfl (by first | exact hr.units65 | exact hr.in1.units65)) (pv 4) (pv 2) (by rfl)) pa_nil))))))))
       (pss_cons (ps_if (PW.pt (pw_and (pt_cmpR op_eq (pe_call GD (hr.mono (by first | decide | omega)) rfl TD.1 TD.2.1 TD.2.2 .nil pass0 (pa_cons (pv 0) (pa_cons pe_int pa_nil))) pe_int (nomark _)) (pw_and (pt_cmpR op_lt (pe_callB (call_len_K (K := K) rfl) (by rfl) m_len PySem.boot_len (pa_cons (pv 2) pa_nil)) pe_int (nomark _)) (pw_and1 (pt_cmpR (op_notInDK (K := K) rfl (by first | exact hr.units65 | exact hr.in1.units65)) (pe_tup (pa_cons pe_str (pa_cons pe_str pa_nil))) (pv 2) (by rfl))))))
       (pss_one (ps_set (i := 2) scDr.nd rfl (.inl rfl) (pe_op op_cat (pe_op op_cat (pe_lst (pa_cons (pe_tup (pa_cons pe_str (pa_cons pe_str pa_nil))) pa_nil)) (pv 2)) (pe_lst (pa_cons (pe_tup (pa_cons pe_str (pa_cons pe_str pa_nil))) pa_nil)))))
       pss_nil)
       (pss_one (ps_ret (pv 2))))))), ?_⟩
    obtain ⟨at0, ns0, po, _⟩ := id hp
    refine ⟨by show 12 ≤ sizeLine; decide, fun wl nw => ?_⟩
    have s1 := same_upd (o := HO.lst (W12.map V.str)) nw
    have ew : (upd H wl (.lst (W12.map V.str))) wl = some (.lst (W12.map V.str)) := upd_same
    show (tSeq _ _) _ _ (upd H wl (.lst (W12.map V.str)))
    generalize upd H wl (.lst (W12.map V.str)) = H1 at s1 ew
    refine ⟨Nat.zero_le _, fun fl0 nf => ?_⟩
    have s2 := same_upd (o := HO.lst []) nf
    have ef : (upd H1 fl0 (.lst [])) fl0 = some (.lst []) := upd_same
    generalize upd H1 fl0 (.lst []) = H2 at s2 ef
    have c0 : DrS K d o qq H wl fl0 [] [] H2 := by
      refine ⟨but_of (s1.trans s2), hp.same (s1.trans s2), s2 _ _ ew, fun z => ?_, ef, fun z => ?_, s1.free nf, .nil, .nil, fun s hs => by cases hs⟩
      · rw [z, po] at nw; cases nw
      · rw [z, s1 _ _ po] at nf; cases nf
    refine ⟨_, rfl, o, qq, 6, rfl, c0.pool, by decide, by decide, fun H3 n3 b3 p3 n30 n31 => ?_⟩
    have c3 := c0.draw b3 p3
    refine ⟨_, _, rfl, rfl, _, rfl, by omega, by omega, for_range (lo := 0) (n := (1 + n3).toNat) (fun i σ Hi => ∃ (fl : Addr) (xs : List V) (ss : List Step) (v3 v4 : Option V), σ = [some (.ref o), some (.ref wl), some (.ref fl), v3, v4] ∧ DrS K d o qq H wl fl xs ss Hi ∧ ss.length ≤ i ∧ (0 < i → 1 ≤ ss.length))
      ⟨fl0, [], [], none, none, rfl, c3, Nat.zero_le _, fun z => absurd z (Nat.lt_irrefl _)⟩ ?_ ?_⟩
    · rintro i σ H4 hi ⟨fl, xs, ss, v3, v4, rfl, c4, sl, s1⟩
      refine ⟨_, rfl, _, rfl, o, qq, wl, _, rfl, c4.pool, c4.hwo, SqL.of c4.hw, by decide +kernel, by decide +kernel, fun H5 x5 b5 p5 m5 => ?_⟩
      obtain ⟨wd, hwd, rfl⟩ := List.mem_map.mp m5
      have c5 := c4.draw b5 p5
      refine ⟨_, rfl, by show 3 ≤ sizeLine; decide, fun nl nn => ?_⟩
      have s6 := same_upd (o := HO.lst (N3.map V.str)) nn
      have e6 : (upd H5 nl (.lst (N3.map V.str))) nl = some (.lst (N3.map V.str)) := upd_same
      have nlo : nl ≠ o := fun z => by
        obtain ⟨_, _, h1, _⟩ := c5.pool
        rw [z, h1] at nn; cases nn
      show spPick K _ (upd H5 nl (.lst (N3.map V.str))) _ E0
      generalize upd H5 nl (.lst (N3.map V.str)) = H6 at s6 e6
      have c6 := c5.same s6
      refine ⟨o, qq, nl, _, rfl, c6.pool, nlo, SqL.of e6, by decide +kernel, by decide +kernel, fun H7 x7 b7 p7 m7 => ?_⟩
      obtain ⟨nm, hnm, rfl⟩ := List.mem_map.mp m7
      have c7 := c6.draw b7 p7
      refine ⟨by show 2 ≤ sizeLine; decide, fun y ny => ?_⟩
      have s8 := same_upd (o := HO.tup [V.str wd, V.str nm]) ny
      have hy : SqT K (upd H7 y (.tup [V.str wd, V.str nm])) y [V.str wd, V.str nm] := SqT.of upd_same
      generalize upd H7 y (.tup [V.str wd, V.str nm]) = H8 at s8 hy
      have c8 := c7.same s8
      have sv : SVG K d H8 (.ref y) (some (wd, nm)) := svg12 hW hwd (n4_10 (n3_4 hnm)) hy
      have hgs : GoodS (wd, nm) := sv.2 _ rfl
      have lrow := c8.row.length
      refine ⟨_, rfl, _, rfl, by show 1 ≤ sizeLine; decide, fun l1 nl1 => ?_⟩
      have s9 := same_upd (o := HO.lst [V.ref y]) nl1
      have e9 : (upd H8 l1 (.lst [V.ref y])) l1 = some (.lst [V.ref y]) := upd_same
      generalize upd H8 l1 (.lst [V.ref y]) = H9 at s9 e9
      have c9 := c8.same s9
      refine ⟨_, rfl, _, rfl, stepD (wd, nm), ss.map stepD, (sv.same s9).1.step.dp, .lst (SqL.of c9.fd) (row_steps c9.row).dp, txtD_shaped hgs.all, stepsL_shaped (row_good c9.row), .inr ⟨_, rfl, ?_⟩⟩
      rw [any_step]
      by_cases h : (wd, nm) ∈ ss
      · rw [decide_eq_true h]
        refine ⟨l1, 0, _, rfl, rfl, e9, by decide, by decide, Nat.zero_le _, fun l2 nl2 => ?_⟩
        have s10 := same_upd (o := HO.lst []) nl2
        have e10 : (upd H9 l2 (.lst [])) l2 = some (.lst []) := upd_same
        show rCat _ _ (upd H9 l2 (.lst [])) _
        generalize upd H9 l2 (.lst []) = H10 at s10 e10
        have c10 := c9.same s10
        refine ⟨fl, l2, xs, [], rfl, rfl, c10.fd, e10, ?_, fun f2 nf2 => ?_⟩
        · rw [lrow, sizeLine_eq]
          show ss.length + 0 ≤ _
          omega
        have s11 := same_upd (o := HO.lst (xs ++ [])) nf2
        refine ⟨f2, xs ++ [], ss, _, _, rfl, c10.put s11 nf2 upd_same ?_ c10.nd c10.mem, by omega, fun _ => List.length_pos_of_mem h⟩
        rw [List.append_nil]
        exact c10.row.same (by rw [List.append_nil] at s11; exact s11)
      · rw [decide_eq_false h]
        refine ⟨l1, 1, _, rfl, rfl, e9, by decide, by decide, by show 1 ≤ sizeLine; decide, fun l2 nl2 => ?_⟩
        have s10 := same_upd (o := HO.lst [V.ref y]) nl2
        have e10 : (upd H9 l2 (.lst [V.ref y])) l2 = some (.lst [V.ref y]) := upd_same
        show rCat _ _ (upd H9 l2 (.lst [V.ref y])) _
        generalize upd H9 l2 (.lst [V.ref y]) = H10 at s10 e10
        have c10 := c9.same s10
        refine ⟨fl, l2, xs, [.ref y], rfl, rfl, c10.fd, e10, ?_, fun f2 nf2 => ?_⟩
        · rw [lrow, sizeLine_eq]
          show ss.length + 1 ≤ _
          omega
        have s11 := same_upd (o := HO.lst (xs ++ [V.ref y])) nf2
        refine ⟨f2, xs ++ [.ref y], ss ++ [(wd, nm)], _, _, rfl, c10.put s11 nf2 upd_same ((c10.row.same s11).append (.cons (sv.same ((s9.trans s10).trans s11)) .nil)) ?_ ?_, ?_, ?_⟩
        · refine List.nodup_append.mpr ⟨c10.nd, by simp, fun a ha b hb => ?_⟩
          rw [List.mem_singleton.mp hb]
          intro z
          rw [z] at ha
          exact h ha
        · intro t ht
          rcases List.mem_append.mp ht with ht | ht
          · exact c10.mem t ht
          · rw [List.mem_singleton.mp ht]
            exact ⟨hwd, hnm⟩
        · rw [List.length_append]
          show ss.length + 1 ≤ _
          omega
        · intro _
          rw [List.length_append]
          show 1 ≤ ss.length + 1
          omega
    · rintro σ H4 ⟨fl, xs, ss, v3, v4, rfl, c4, sl, s1⟩
      have l1 := s1 (by omega)
      have l6 : ss.length ≤ 6 := by omega
      have fin : ∀ H5, DrS K d o qq H wl fl xs ss H5 → Q (.ref fl) H5 := fun H5 c => q H5 fl xs ss c.but c.pool c.hfn c.fd c.row c.nd l1 l6 fun s hs => ⟨(c.mem s hs).1, n3_4 (c.mem s hs).2⟩
      refine ⟨_, rfl, o, qq, 3, rfl, c4.pool, by decide, by decide, fun H5 n5 b5 p5 n50 n51 => ⟨rfl, _, rfl, ?_⟩⟩
      have c5 := c4.draw b5 p5
      by_cases h1 : V.int n5 = V.int 0
      · rw [decide_eq_true h1]
        refine iteT ⟨_, rfl, fl, xs, rfl, .inl (SqL.of c5.fd), _, _, rfl, rfl, _, rfl, ?_⟩
        have lrow := c5.row.length
        by_cases h2 : ((xs.length : Nat) : Int) < 5
        · rw [decide_eq_true h2]
          refine iteT ⟨by show 2 ≤ sizeLine; decide, fun y ny => ?_⟩
          have s6 := same_upd (o := HO.tup [V.str "take", V.str "l"]) ny
          have hy : SqT K (upd H5 y (.tup [V.str "take", V.str "l"])) y [V.str "take", V.str "l"] := SqT.of upd_same
          show tVar 2 _ (upd H5 y (.tup [V.str "take", V.str "l"])) _
          generalize upd H5 y (.tup [V.str "take", V.str "l"]) = H6 at s6 hy
          have c6 := c5.same s6
          have sv : SVG K d H6 (.ref y) (some (("take" : Str), ("l" : Str))) := svg12 hW (by decide +kernel) (by decide +kernel) hy
          refine ⟨_, rfl, stepD (("take" : Str), ("l" : Str)), ss.map stepD, sv.1.step.dp, .lst (SqL.of c6.fd) (row_steps c6.row).dp, txtD_shaped (sv.2 _ rfl).all, stepsL_shaped (row_good c6.row), _, rfl, ?_⟩
          rw [any_step]
          have nl : ∀ w, (w, ("l" : Str)) ∉ ss := fun w z => absurd (show ("l" : Str) ∈ N3 from (c6.mem _ z).2) (by decide +kernel)
          rw [decide_eq_false (nl _)]
          refine iteT ?_
          refine ⟨by show 2 ≤ sizeLine; decide, fun g1 ng1 => ?_⟩
          have s7 := same_upd (o := HO.tup [V.str "give", V.str "l"]) ng1
          have h7 : SqT K (upd H6 g1 (.tup [V.str "give", V.str "l"])) g1 [V.str "give", V.str "l"] := SqT.of upd_same
          generalize upd H6 g1 (.tup [V.str "give", V.str "l"]) = H7 at s7 h7
          have sv1 : SVG K d H7 (.ref g1) (some (("give" : Str), ("l" : Str))) := svg12 hW (by decide +kernel) (by decide +kernel) h7
          refine ⟨by show 1 ≤ sizeLine; decide, fun l1 nl1 => ?_⟩
          have s8 := same_upd (o := HO.lst [V.ref g1]) nl1
          have e8 : (upd H7 l1 (.lst [V.ref g1])) l1 = some (.lst [V.ref g1]) := upd_same
          generalize upd H7 l1 (.lst [V.ref g1]) = H8 at s8 e8
          have c8 := (c6.same s7).same s8
          refine ⟨_, rfl, l1, fl, _, _, rfl, rfl, e8, c8.fd, ?_, fun c1 nc1 => ?_⟩
          · rw [lrow, sizeLine_eq]
            show 1 + ss.length ≤ _
            omega
          have s9 := same_upd (o := HO.lst ([V.ref g1] ++ xs)) nc1
          have e9 : (upd H8 c1 (.lst ([V.ref g1] ++ xs))) c1 = some (.lst ([V.ref g1] ++ xs)) := upd_same
          generalize upd H8 c1 (.lst ([V.ref g1] ++ xs)) = H9 at s9 e9
          refine ⟨by show 2 ≤ sizeLine; decide, fun g2 ng2 => ?_⟩
          have s10 := same_upd (o := HO.tup [V.str "take", V.str "l"]) ng2
          have h10 : SqT K (upd H9 g2 (.tup [V.str "take", V.str "l"])) g2 [V.str "take", V.str "l"] := SqT.of upd_same
          generalize upd H9 g2 (.tup [V.str "take", V.str "l"]) = H10 at s10 h10
          have sv2 : SVG K d H10 (.ref g2) (some (("take" : Str), ("l" : Str))) := svg12 hW (by decide +kernel) (by decide +kernel) h10
          refine ⟨by show 1 ≤ sizeLine; decide, fun l2 nl2 => ?_⟩
          have s11 := same_upd (o := HO.lst [V.ref g2]) nl2
          have e11 : (upd H10 l2 (.lst [V.ref g2])) l2 = some (.lst [V.ref g2]) := upd_same
          generalize upd H10 l2 (.lst [V.ref g2]) = H11 at s11 e11
          refine ⟨c1, l2, _, _, rfl, rfl, s11 _ _ (s10 _ _ e9), e11, ?_, fun c2 nc2 => ?_⟩
          · rw [List.length_append, lrow, sizeLine_eq]
            show 1 + ss.length + 1 ≤ _
            omega
          have s12 := same_upd (o := HO.lst ([V.ref g1] ++ xs ++ [V.ref g2])) nc2
          have e12 : (upd H11 c2 (.lst ([V.ref g1] ++ xs ++ [V.ref g2]))) c2 = some (.lst ([V.ref g1] ++ xs ++ [V.ref g2])) := upd_same
          generalize upd H11 c2 (.lst ([V.ref g1] ++ xs ++ [V.ref g2])) = H12 at s12 e12
          have s812 := (s9.trans s10).trans (s11.trans s12)
          have c12 := c8.same s812
          have nc0 : H c2 = none := by
            have z := (s9.trans (s10.trans s11)).free nc2
            have hfo : c2 ≠ o := fun y => by
              obtain ⟨_, _, h1, _⟩ := c8.pool
              rw [y, h1] at z; cases z
            cases q0 : H c2 with
            | none => rfl
            | some u => rw [c8.but _ _ hfo q0] at z; cases z
          have r1 : RowAt K d H12 [V.ref g1] [(("give" : Str), ("l" : Str))] := .cons (sv1.same (s8.trans s812)) .nil
          have r2 : RowAt K d H12 [V.ref g2] [(("take" : Str), ("l" : Str))] := .cons (sv2.same (s11.trans s12)) .nil
          refine ⟨_, rfl, q H12 c2 _ (([(("give" : Str), ("l" : Str))] ++ ss) ++ [(("take" : Str), ("l" : Str))]) c12.but c12.pool nc0 e12 ((r1.append c12.row).append r2) ?_ ?_ ?_ ?_⟩
          · have gt : (("give" : Str), ("l" : Str)) ≠ (("take" : Str), ("l" : Str)) := by decide +kernel
            refine List.nodup_append.mpr ⟨List.nodup_append.mpr ⟨by simp, c6.nd, fun a ha b hb z => ?_⟩, by simp, fun a ha b hb z => ?_⟩
            · rw [List.mem_singleton.mp ha] at z
              rw [← z] at hb
              exact nl _ hb
            · rw [List.mem_singleton.mp hb] at z
              rw [z] at ha
              rcases List.mem_append.mp ha with ha | ha
              · exact gt (List.mem_singleton.mp ha).symm
              · exact nl _ ha
          · rw [List.length_append, List.length_append]
            show 1 ≤ 1 + ss.length + 1
            omega
          · rw [List.length_append, List.length_append]
            show 1 + ss.length + 1 ≤ 6
            omega
          · intro t ht
            rcases List.mem_append.mp ht with ht | ht
            · rcases List.mem_append.mp ht with ht | ht
              · rw [List.mem_singleton.mp ht]
                exact ⟨by decide +kernel, by decide +kernel⟩
              · exact ⟨(c6.mem t ht).1, n3_4 (c6.mem t ht).2⟩
            · rw [List.mem_singleton.mp ht]
              exact ⟨by decide +kernel, by decide +kernel⟩
        · rw [decide_eq_false h2]
          exact iteF (iteF ⟨_, rfl, fin H5 c5⟩)
      · rw [decide_eq_false h1]
        exact iteF (iteF ⟨_, rfl, fin H5 c5⟩)
end
end Rw

/-! U11 -/
/-! ### odd values, shown -/
namespace Rw
open PySem PySem.Spec PyProof.Rows L2
def itemB (d : PyData) : Bool := !d.hasDict && d.showable && decide (d.depth ≤ 3) && d.leavesShort 13 && decide (d.weight ≤ 40) && PyData.strOk d.shown
theorem step_item : (W12.all fun w => N10.all fun n => itemB (stepD (w, n))) = true := by decide +kernel
theorem use_item : itemB (.tuple [.str "use"]) = true := by decide +kernel
theorem bar_item : itemB (.str "bar") = true := by decide +kernel
theorem lst_item : (W12.all fun w => N10.all fun n => itemB (.list [.str w, .str n])) = true := by decide +kernel
theorem none_item : itemB .none = true := by decide +kernel
theorem true_item : itemB (.bool true) = true := by decide +kernel
theorem one_item : itemB (.str "1") = true := by decide +kernel
theorem i1_item : itemB (.int (-1)) = true := by decide +kernel
theorem i7_item : itemB (.int 7) = true := by decide +kernel
theorem i1001_item : itemB (.int 1001) = true := by decide +kernel
theorem big_ok : PyData.strOk (PyData.int (10 ^ 30)).shown = true ∧ (PyData.int (10 ^ 30)).showable = true ∧ (PyData.int (10 ^ 30)).shown.length ≤ 100 := by decide +kernel
theorem ok_app {a b : Str} (h1 : PyData.strOk a = true) (h2 : PyData.strOk b = true) : PyData.strOk (a ++ b) = true := by
  unfold PyData.strOk at *
  show (a.cps ++ b.cps).all _ = true
  rw [Array.all_append, h1, h2]
  rfl
theorem ok_join {sep : Str} (hs : PyData.strOk sep = true) : ∀ l : List Str, (∀ t ∈ l, PyData.strOk t = true) → PyData.strOk (Str.join sep l) = true
  | [], _ => by
    show PyData.strOk Str.empty = true
    decide +kernel
  | [t], h => by
    have z := h t List.mem_cons_self
    simpa [Str.join] using z
  | t :: u :: l, h => by
    have z := ok_join hs (u :: l) fun x hx => h x (List.mem_cons_of_mem _ hx)
    have e : Str.join sep (t :: u :: l) = t ++ sep ++ Str.join sep (u :: l) := by simp [Str.join]
    rw [e]
    exact ok_app (ok_app (h t List.mem_cons_self) hs) z
structure ItB (d : PyData) : Prop where
  hd : d.hasDict = false
  sw : d.showable = true
  dp : d.depth ≤ 3
  lv : d.leavesShort 13 = true
  wt : d.weight ≤ 40
  ok : PyData.strOk d.shown = true
theorem itb {d : PyData} (h : itemB d = true) : ItB d := by
  unfold itemB at h
  simp only [Bool.and_eq_true, Bool.not_eq_true', decide_eq_true_eq] at h
  obtain ⟨⟨⟨⟨⟨a, b⟩, c⟩, d⟩, e⟩, f⟩ := h
  exact ⟨a, b, c, d, e, f⟩
theorem itbAll : ∀ ds : List PyData, (∀ d ∈ ds, ItB d) → PyData.hasDictAll ds = false ∧ PyData.showableAll ds = true ∧ PyData.depthAll ds ≤ 3 ∧ PyData.leavesShortAll 13 ds = true ∧ PyData.weightAll ds ≤ 41 * ds.length ∧ ∀ t ∈ PyData.shownAll ds, PyData.strOk t = true
  | [], _ => ⟨rfl, rfl, Nat.zero_le _, rfl, Nat.le_refl _, fun t ht => by cases ht⟩
  | d :: ds, h => by
    obtain ⟨a, b, c, e, f, g⟩ := itbAll ds fun x hx => h x (List.mem_cons_of_mem _ hx)
    obtain ⟨a1, b1, c1, e1, f1, g1⟩ := h d List.mem_cons_self
    refine ⟨by simp only [PyData.hasDictAll, a, a1]; rfl, by simp only [PyData.showableAll, b, b1]; rfl, ?_, by simp only [PyData.leavesShortAll, e, e1]; rfl, ?_, fun t ht => ?_⟩
    · simp only [PyData.depthAll]
      omega
    · simp only [PyData.weightAll, List.length_cons]
      omega
    · simp only [PyData.shownAll] at ht
      rcases List.mem_cons.mp ht with rfl | ht
      · exact g1
      · exact g t ht
/-- shown, and its text one that lists may hold -/
structure ShowsO (K : PySem.W.Frag) (H : Hp) (v : V) (dv : PyData) : Prop where
  sh : Shows K H v dv
  ok : PyData.strOk dv.shown = true
theorem ShowsO.same {K : PySem.W.Frag} {H H' : Hp} (s : Same H H') {v : V} {dv : PyData} (h : ShowsO K H v dv) : ShowsO K H' v dv := ⟨⟨dq_same s _ _ h.sh.1, h.sh.2⟩, h.ok⟩
theorem shO_item {K : PySem.W.Frag} {H : Hp} {v : V} {d : PyData} (h : ItB d) (q : Dq K H v d) : ShowsO K H v d :=
  ⟨⟨q, .inl h.hd, h.sw, by have := h.dp; omega, PyData.shown_fits (B := 13) (by decide) (by decide) h.lv (by have := h.wt; omega)⟩, h.ok⟩
theorem shO_list {K : PySem.W.Frag} {H : Hp} {p : Addr} {xs : List V} {ds : List PyData} (hn : ds.length ≤ 20) (h : ∀ d ∈ ds, ItB d) (e : SqL K H p xs) (q : DqAll K H xs ds) : ShowsO K H (.ref p) (.list ds) := by
  obtain ⟨a, b, c, e1, f, g⟩ := itbAll ds h
  refine ⟨⟨.lst e q, .inl (by simp only [PyData.hasDict]; exact a), by simp only [PyData.showable]; exact b, by simp only [PyData.depth]; omega, PyData.shown_fits (B := 13) (by decide) (by decide) (by simp only [PyData.leavesShort]; exact e1) (by simp only [PyData.weight]; omega)⟩, ?_⟩
  rw [PyData.shown_list]
  exact ok_app (ok_app (by decide +kernel) (ok_join (by decide +kernel) _ g)) (by decide +kernel)
theorem shO_tup {K : PySem.W.Frag} {H : Hp} {p : Addr} {xs : List V} {ds : List PyData} (hn : ds.length ≤ 20) (h : ∀ d ∈ ds, ItB d) (e : SqT K H p xs) (q : DqAll K H xs ds) : ShowsO K H (.ref p) (.tuple ds) := by
  obtain ⟨a, b, c, e1, f, g⟩ := itbAll ds h
  refine ⟨⟨.tup e q, .inl (by simp only [PyData.hasDict]; exact a), by simp only [PyData.showable]; exact b, by simp only [PyData.depth]; omega, PyData.shown_fits (B := 13) (by decide) (by decide) (by simp only [PyData.leavesShort]; exact e1) (by simp only [PyData.weight]; omega)⟩, ?_⟩
  rw [PyData.shown_tuple]
  refine ok_app (ok_app (by decide +kernel) (ok_join (by decide +kernel) _ g)) ?_
  split <;> decide +kernel
theorem stepD_itb {s : Step} (h1 : s.1 ∈ W12) (h2 : s.2 ∈ N10) : ItB (stepD s) := itb (List.all_eq_true.mp (List.all_eq_true.mp step_item s.1 h1) s.2 h2)
theorem stepL_itb {s : Step} (h1 : s.1 ∈ W12) (h2 : s.2 ∈ N10) : ItB (.list [.str s.1, .str s.2]) := itb (List.all_eq_true.mp (List.all_eq_true.mp lst_item s.1 h1) s.2 h2)
theorem dq_step {K : PySem.W.Frag} {H : Hp} {v : V} {s : Step} (h : StepAt K H v s) : Dq K H v (stepD s) := by
  obtain ⟨p, rfl, q⟩ := h
  exact .tup q (.cons (.str _) (.cons (.str _) .nil))
theorem dq_steps {K : PySem.W.Frag} {H : Hp} : ∀ {xs : List V} {ss : List Step}, StepsAt K H xs ss → DqAll K H xs (ss.map stepD)
  | [], [], _ => .nil
  | x :: xs, s :: ss, .cons h t => .cons (dq_step h) (dq_steps t)
theorem DqAll.append {K : PySem.W.Frag} {H : Hp} : ∀ {xs ys : List V} {ds es : List PyData}, DqAll K H xs ds → DqAll K H ys es → DqAll K H (xs ++ ys) (ds ++ es)
  | [], _, [], _, .nil, h => h
  | x :: xs, _, d :: ds, _, .cons a b, h => .cons a (DqAll.append b h)
end Rw

/-! U12 -/
/-! ### the rows that the law draws -/
namespace L2
open PySem PySem.Spec PyProof.Rows
end L2
namespace Rw
open PySem PySem.Spec PyProof.Rows L2
theorem svg_upd {K : PySem.W.Frag} {d : Addr} {H : Hp} {D : Addr} {as : List V} {u : HO} (e : H D = some (.lst as)) {v : V} {s : Step} (h : SVG K d H v (some s)) : SVG K d (upd H D u) v (some s) := by
  refine ⟨?_, h.2⟩
  obtain ⟨h, _⟩ := h
  generalize hs : some s = r at h
  cases h with
  | good a b1 c e1 =>
    cases hs
    exact .good (sqT_upd e a) b1 c e1
  | _ => cases hs
section
variable {K : PySem.W.Frag} {d o q : Addr} {H0 : Hp} {wl fl : Addr} {xs : List V} {ss : List Step} {H H' : Hp}
end
end Rw

/-! ### what is refused -/
namespace Rw
open PySem PySem.Spec PyProof.Rows L2
theorem ix_no {K : PySem.W.Frag} {H : Hp} {i m : Int} (h : i < 0 ∨ m ≤ i) : IxV K H m (.int i) false := by
  have z := IxV.int (K := K) (H := H) (m := m) i
  have e : (decide (0 ≤ i) && decide (i < m)) = false := by
    rw [Bool.and_eq_false_iff]
    rcases h with h | h
    · exact .inl (decide_eq_false (by omega))
    · exact .inr (decide_eq_false (by omega))
  rwa [e] at z
theorem ix_yes {K : PySem.W.Frag} {H : Hp} {i m : Int} (h0 : 0 ≤ i) (h1 : i < m) : IxV K H m (.int i) true := by
  have z := IxV.int (K := K) (H := H) (m := m) i
  rwa [decide_eq_true h0, decide_eq_true h1] at z
theorem cut_any5 {xs : List V} (h : xs.length ≤ 5) : cutV xs none (some 5) = xs := by
  have e : HT.sIx xs.length xs.length (some ((5 : Nat) : Int)) = xs.length := by
    rw [HT.sIx_nat]
    omega
  show (xs.drop 0).take (HT.sIx xs.length xs.length (some ((5 : Nat) : Int)) - 0) = xs
  rw [e, List.drop_zero, Nat.sub_zero, List.take_length]
/-- an odd stock, an odd number -/
structure OddK (K : PySem.W.Frag) (d : Addr) (H : Hp) (v : V) : Prop where
  st : StkV K d H v false
  sh : ∃ dv, ShowsO K H v dv
structure OddI (K : PySem.W.Frag) (m : Int) (H : Hp) (v : V) : Prop where
  st : IxV K H m v false
  sh : ∃ dv, ShowsO K H v dv
theorem OddK.same {K : PySem.W.Frag} {d : Addr} {H H' : Hp} (s : Same H H') {v : V} (h : OddK K d H v) : OddK K d H' v := ⟨h.st.same s, let ⟨dv, z⟩ := h.sh; ⟨dv, z.same s⟩⟩
theorem OddI.same {K : PySem.W.Frag} {m : Int} {H H' : Hp} (s : Same H H') {v : V} (h : OddI K m H v) : OddI K m H' v := ⟨h.st.same s, let ⟨dv, z⟩ := h.sh; ⟨dv, z.same s⟩⟩
theorem oddK_lst {K : PySem.W.Frag} {d : Addr} {H : Hp} {p : Addr} {xs : List V} {rs : List (Option Step)} {ds : List PyData} (e : SqL K H p xs) (r : All2 (SVG K d H) xs rs) (hb : stkB rs = false) (hz : rs.length ≤ 20) (q : DqAll K H xs ds) (hn : ds.length ≤ 20) (hi : ∀ d ∈ ds, ItB d) : OddK K d H (.ref p) := by
  have z := StkV.lst (K := K) (d := d) e r (by omega)
  rw [hb] at z
  exact ⟨z, _, shO_list hn hi e q⟩
theorem stkB_none {rs : List (Option Step)} (h : none ∈ rs) : stkB rs = false := by
  unfold stkB
  have z : rs.all Option.isSome = false := by
    rw [List.all_eq_false]
    exact ⟨none, h, by simp⟩
  rw [z]
  simp
theorem stkB_good {ss : List Step} (h1 : 1 ≤ ss.length) (h6 : ss.length ≤ 6) (nd : ss.Nodup) : stkB (ss.map some) = true := by
  unfold stkB
  rw [fm_some, List.length_map, decide_eq_true h1, decide_eq_true h6, decide_eq_true nd]
  have z : (ss.map some).all Option.isSome = true := by
    rw [List.all_map, List.all_eq_true]
    intro x _
    rfl
  rw [z]
  rfl
theorem stkB_twice {ss : List Step} {s : Step} (h : s ∈ ss) : stkB ((ss ++ [s]).map some) = false := by
  unfold stkB
  rw [fm_some]
  have z : ¬ (ss ++ [s]).Nodup := fun nd => (List.nodup_append.mp nd).2.2 s h s (List.mem_singleton.mpr rfl) rfl
  rw [decide_eq_false z]
  simp
theorem stkB_long {ss : List Step} (h : 6 < ss.length) : stkB (ss.map some) = false := by
  unfold stkB
  rw [List.length_map, decide_eq_false (show ¬ ss.length ≤ 6 by omega)]
  simp
theorem ne_two {K : PySem.W.Frag} {H : Hp} {p r : Addr} {a b : Str} (ha : sOk a) (hb : sOk b) (e1 : H p = some (.lst [.str a, .str b])) (e2 : H r = some (.lst [.str a, .str b])) {Q : VK} (q : Q (.bl false) H) : rNeD K (.ref p) (.ref r) H Q := by
  have ok : ∀ n ∈ [a, b], sOk n := fun n hn => by
    rcases List.mem_cons.mp hn with rfl | hn
    · exact ha
    · rw [List.mem_singleton.mp hn]; exact hb
  refine ⟨.list ([a, b].map PyData.str), .list ([a, b].map PyData.str), .lst (SqL.of e1) (dp_txts [a, b]), .lst (SqL.of e2) (dp_txts [a, b]), listD_shaped ok, listD_shaped ok, ?_⟩
  rw [eqv_list_txt, decide_eq_true rfl]
  exact q
theorem stock_ok : sOk "stock" := by decide +kernel
theorem none_ok : sOk "none" := by decide +kernel
def bars : List Str := ["a", "b", "c", "d", "e", "f", "g"]
def barS : List Step := bars.map fun n => ("bar", n)
theorem barS_mem : ∀ s ∈ barS, s.1 ∈ W12 ∧ s.2 ∈ N10 := by decide +kernel
theorem bar7 : (rowsUp (barS.take 6) (1 + 1)).length = 7 := by decide +kernel
theorem bar_nd : (barS.take 6).Nodup := by decide +kernel
/-- a written list, by its values -/
theorem lst_lay {t : TA} {σ : L2.St} {H : Hp} {Q : VK} (xs : List V) (ht : ∀ Qa : List V → Hp → Prop, Qa xs H → t σ H Qa) (hz : xs.length ≤ sizeLine) (q : ∀ p H', Same H H' → H p = none → H' p = some (.lst xs) → Q (.ref p) H') : tLst t σ H Q :=
  ht _ ⟨hz, fun p np => q p _ (same_upd np) np upd_same⟩
theorem next_in {D : Ends} {σ : L2.St} {H : Hp} (h : D.nx σ H) : tNext D σ H := h
theorem tFor_lay {K : PySem.W.Frag} {t : TA} {g : TG} {tb : TS} {D : Ends} {σ : L2.St} {H : Hp} (xs : List V) (ht : ∀ Qa : List V → Hp → Prop, Qa xs H → t σ H Qa) (hz : xs.length ≤ sizeLine) (q : ∀ p H', Same H H' → H p = none → H' p = some (.lst xs) → tFor (fun _ H R => R (Itl K p) H) g tb D σ H') :
    tFor (iList K (tLst t)) g tb D σ H := ht _ ⟨hz, fun p np => ⟨p, rfl, ⟨xs, SqL.of upd_same⟩, q p _ (same_upd np) np upd_same⟩⟩
theorem tLcA_lay {K : PySem.W.Frag} {t : TA} {g g2 : TG} {tt : TT} {te : TE} {vs : List Nat} {D : Ends} {σ : L2.St} {H : Hp} (xs : List V) (ht : ∀ Qa : List V → Hp → Prop, Qa xs H → t σ H Qa) (hz : xs.length ≤ sizeLine) (q : ∀ p H', Same H H' → H p = none → H' p = some (.lst xs) → tAsg (tLc (fun _ H R => R (Itl K p) H) g tt te vs) g2 D σ H') :
    tAsg (tLc (iList K (tLst t)) g tt te vs) g2 D σ H := ht _ ⟨hz, fun p np => ⟨p, rfl, ⟨xs, SqL.of upd_same⟩, q p _ (same_upd np) np upd_same⟩⟩
/-- what stands on the right of a comparison: the word, the value shown -/
theorem said {K : PySem.W.Frag} {i : Nat} {σ : L2.St} {H : Hp} {Q : VK} {a : Str} {v : V} {dv : PyData} (hv : σ[i]? = some (some v)) (h : ShowsO K H v dv) (q : ∀ p, H p = none → Q (.ref p) (upd H p (.lst [.str a, .str dv.shown]))) :
    tLst (tCons (tC (.str a)) (tCons (tCB (rReprD K) (tCons (tVar i) tNil)) tNil)) σ H Q :=
  ⟨v, hv, v, dv, rfl, h.sh.1, h.sh.2.1, h.sh.2.2.1, h.sh.2.2.2.1, h.sh.2.2.2.2, by show 2 ≤ sizeLine; decide, q⟩
def spRefused (K : PySem.W.Frag) (C d : Addr) : Sp := fun vs H Q _ => ∃ (a r : Addr) (xs : List V) (ss : List Step), vs = [.ref a, .ref r] ∧ H a = some (.lst xs) ∧ RowAt K d H xs ss ∧ ss.Nodup ∧ 1 ≤ ss.length ∧ ss.length ≤ 6 ∧ (∀ s ∈ ss, s.1 ∈ W12 ∧ s.2 ∈ N4) ∧ IsRow K C d H r [] ∧ ∀ H', Same H H' → Q (.bl true) H'
section
variable {P : Program} {w : World} {K : PySem.W.Frag} {mg : Str → Option Value} {base : Heap}
abbrev sRf : Stmt := top 48
theorem scRf : FnScope ["_law_stock", "_law_row", "_law_some", "_law_odd", "_law_many", "_law_name"] ["_law_stock", "_law_row"] (defScope sRf) := ⟨rfl, rfl, rfl, by decide +kernel, rfl, by decide +kernel, by decide +kernel⟩
theorem ok_refused {f fR fP C d : Addr} {fd fdR fdP : FuncData} (F : Fun K "_law_refused" "_law_refused" sRf f fd) (hW : ∀ w ∈ W12, ∃ u, PySem.W.nsIn K d w = some (some u))
    (GR : FnOkG P w K mg base CX0 8 fR fdR ["_law_stock", "_law_longest"] (spLRows K d)) (TR : Called K mg "_law_rows" ["_law_stock", "_law_longest"] fR fdR)
    (GP : FnOkG P w K mg base CX0 6 fP fdP ["_law_row", "_law_one", "_law_other"] (spLPrice K C d)) (TP : Called K mg "_law_price" ["_law_row", "_law_one", "_law_other"] fP fdP)
    (m_len : mg "len" = none) (m_repr : mg "repr" = none) (m_tuple : mg "tuple" = none) (m_list : mg "list" = none) : FnOkG P w K mg base CX0 9 f fd ["_law_stock", "_law_row"] (spRefused K C d) := by
  refine F.okG scRf (fun vs H Q E h => ?_) (fun cdv A outer s H vs Q E hgd hr h => ?_)
  · obtain ⟨a, r, xs, ss, rfl, _⟩ := h
    rfl
  · obtain ⟨a, r, xs, ss, rfl, ha, hrow, nd, h1, h6, hm, hr0, q⟩ := h
    refine ⟨_, (pss_cons (ps_set (i := 2) scRf.nd rfl (.inl rfl) (pe_lst (pa_cons pe_non (pa_cons (pe_lst pa_nil) (pa_cons (pe_callTy (call_tuple_K (K := K) rfl) (by rfl) m_tuple (by decide +kernel) (pa_cons (pv 0) pa_nil)) (pa_cons (pe_op op_cat (pv 0) (pe_slice sl_list (pv 0) po_none (po_some pe_int))) (pa_cons (pe_lst (pa_cons pe_non pa_nil)) (pa_cons (pe_op op_cat (pe_slice sl_list (pv 0) po_none (po_some pe_int)) (pe_lst (pa_cons (pe_tup (pa_cons pe_str pa_nil)) pa_nil))) (pa_cons (pe_lst (pa_cons pe_str pa_nil)) pa_nil)))))))))
       (pss_cons (ps_for PassesOwn.never rfl (pi_list (pe_op op_cat (pv 2) (pe_lst (pa_cons (pe_lst (pa_cons (pe_callTy (call_list_K (K := K) rfl) (by rfl) m_list (by decide +kernel) (pa_cons (pe_ix (ix_listK (K := K) rfl) (pv 0) pe_int (fun _ _ => rfl)) pa_nil)) pa_nil)) pa_nil)))) (pg_name (i := 3) scRf.nd rfl (.inl rfl))
       (pss_one (ps_if (pt_cmpR (Nm.op_neDK (K := K) rfl hr.units) (pe_callG GR hgd (hr.mono (by first | decide | omega)) rfl TR.1 TR.2.1 TR.2.2 pass0 (pa_cons (pv 3) (pa_cons (pe_un un_neg pe_int) pa_nil))) (pe_lst (pa_cons pe_str (pa_cons (pe_callB (call_reprDK (K := K) rfl hgd hr.units) (by rfl) m_repr (by decide +kernel) (pa_cons (pv 3) pa_nil)) pa_nil))) (nomark _))
       (pss_one (ps_ret pe_bl))
       pss_nil)))
       (pss_cons (ps_setLc (i := 4) (own := [("_law_name", 5)]) (g := gName 5) (tt := tYes) (by rfl) scRf.nd rfl rfl (sw_true rfl rfl rfl (by decide +kernel)) (pi_list (pe_lst (pa_cons pe_str (pa_cons pe_str (pa_cons pe_str (pa_cons pe_str (pa_cons pe_str (pa_cons pe_str (pa_cons pe_str pa_nil))))))))) (blkOk_by (own := [("_law_name", 5)]) (N := ["_law_stock", "_law_row", "_law_some", "_law_odd", "_law_many", "_law_name"]) (sc := defScope sRf) (by decide +kernel)) (fun _ _ _ _ _ => (pg_name (i := 5) scRf.nd rfl (Or.inl rfl))) (fun _ _ _ _ _ => pts_nil) (fun _ _ _ _ _ => (pe_tup (pa_cons pe_str (pa_cons (pv 5) pa_nil)))))
       (pss_cons (ps_if (PW.pt (pw_or (pt_cmpR (Nm.op_neDK (K := K) rfl hr.units) (pe_callG GR hgd (hr.mono (by first | decide | omega)) rfl TR.1 TR.2.1 TR.2.2 pass0 (pa_cons (pv 4) (pa_cons pe_int pa_nil))) (pe_lst (pa_cons pe_str (pa_cons (pe_callB (call_reprDK (K := K) rfl hgd hr.units) (by rfl) m_repr (by decide +kernel) (pa_cons (pv 4) pa_nil)) pa_nil))) (nomark _)) (pw_or1 (pt_cmpR op_ne (pe_callB (call_len_K (K := K) rfl) (by rfl) m_len PySem.boot_len (pa_cons (pe_callG GR hgd (hr.mono (by first | decide | omega)) rfl TR.1 TR.2.1 TR.2.2 pass0 (pa_cons (pe_slice sl_list (pv 4) po_none (po_some pe_int)) (pa_cons pe_int pa_nil))) pa_nil)) pe_int (nomark _)))))
       (pss_one (ps_ret pe_bl))
       pss_nil)
       (pss_cons (ps_for PassesOwn.never rfl (pi_list (pe_lst (pa_cons (pe_un un_neg pe_int) (pa_cons pe_int (pa_cons pe_bl (pa_cons pe_non (pa_cons pe_str pa_nil))))))) (pg_name (i := 3) scRf.nd rfl (.inl rfl))
       (pss_one (ps_if (pt_cmpR (Nm.op_neDK (K := K) rfl hr.units) (pe_callG GR hgd (hr.mono (by first | decide | omega)) rfl TR.1 TR.2.1 TR.2.2 pass0 (pa_cons (pv 0) (pa_cons (pv 3) pa_nil))) (pe_lst (pa_cons pe_str (pa_cons (pe_callB (call_reprDK (K := K) rfl hgd hr.units) (by rfl) m_repr (by decide +kernel) (pa_cons (pv 3) pa_nil)) pa_nil))) (nomark _))
       (pss_one (ps_ret pe_bl))
       pss_nil)))
       (pss_cons (ps_for PassesOwn.never rfl (pi_list (pe_lst (pa_cons (pe_un un_neg pe_int) (pa_cons pe_int (pa_cons pe_bl (pa_cons pe_non (pa_cons pe_str (pa_cons (pe_op op_pow pe_int pe_int) pa_nil)))))))) (pg_name (i := 3) scRf.nd rfl (.inl rfl))
       (pss_one (ps_if (PW.pt (pw_or (pt_cmpR (Nm.op_neDK (K := K) rfl hr.units) (pe_callG GP hgd (hr.mono (by first | decide | omega)) rfl TP.1 TP.2.1 TP.2.2 pass0 (pa_cons (pv 1) (pa_cons (pv 3) (pa_cons (pe_un un_neg pe_int) pa_nil)))) (pe_lst (pa_cons pe_str (pa_cons (pe_callB (call_reprDK (K := K) rfl hgd hr.units) (by rfl) m_repr (by decide +kernel) (pa_cons (pv 3) pa_nil)) pa_nil))) (nomark _)) (pw_or1 (pt_cmpR (Nm.op_neDK (K := K) rfl hr.units) (pe_callG GP hgd (hr.mono (by first | decide | omega)) rfl TP.1 TP.2.1 TP.2.2 pass0 (pa_cons (pv 1) (pa_cons pe_int (pa_cons (pv 3) pa_nil)))) (pe_lst (pa_cons pe_str (pa_cons (pe_callB (call_reprDK (K := K) rfl hgd hr.units) (by rfl) m_repr (by decide +kernel) (pa_cons (pv 3) pa_nil)) pa_nil))) (nomark _)))))
       (pss_one (ps_ret pe_bl))
       pss_nil)))
       (pss_one (ps_ret pe_bl)))))))), ?_⟩
    cases hrow with
    | nil => exact absurd h1 (by show ¬ 1 ≤ 0; decide)
    | @cons x0 s0 xt st hv0 ht =>
    have hrow : RowAt K d H (x0 :: xt) (s0 :: st) := .cons hv0 ht
    generalize hxs : x0 :: xt = xs at ha hrow
    generalize hss : s0 :: st = ss at nd h1 h6 hm hrow
    have lrow := hrow.length
    have m10 : ∀ s ∈ ss, s.1 ∈ W12 ∧ s.2 ∈ N10 := fun s hs => ⟨(hm s hs).1, n4_10 (hm s hs).2⟩
    have itm : ∀ (ts : List Step), (∀ s ∈ ts, s.1 ∈ W12 ∧ s.2 ∈ N10) → ∀ d ∈ ts.map stepD, ItB d := fun ts h d hd => by
      obtain ⟨s, hs, rfl⟩ := List.mem_map.mp hd
      exact stepD_itb (h s hs).1 (h s hs).2
    refine ⟨Nat.zero_le _, fun p1 n1 => ?_⟩
    have s1 := same_upd (o := HO.lst []) n1
    have e1 : (upd H p1 (.lst [])) p1 = some (.lst []) := upd_same
    generalize upd H p1 (.lst []) = H1 at s1 e1
    refine ⟨_, rfl, a, xs, rfl, .inl ⟨SqL.of (s1 _ _ ha), fun p2 n2 => ?_⟩⟩
    have s2 := same_upd (o := HO.tup xs) n2
    have e2 : (upd H1 p2 (.tup xs)) p2 = some (.tup xs) := upd_same
    generalize upd H1 p2 (.tup xs) = H2 at s2 e2
    refine ⟨_, rfl, _, rfl, _, rfl, a, xs, rfl, SqL.of (s2 _ _ (s1 _ _ ha)), fun p3 n3 => ?_⟩
    have c1 : cutV xs none (some 1) = xs.take 1 := cut_head xs 1 (by omega)
    rw [c1]
    have s3 := same_upd (o := HO.lst (xs.take 1)) n3
    have e3 : (upd H2 p3 (.lst (xs.take 1))) p3 = some (.lst (xs.take 1)) := upd_same
    generalize upd H2 p3 (.lst (xs.take 1)) = H3 at s3 e3
    have s03 := (s1.trans s2).trans s3
    refine ⟨a, p3, xs, xs.take 1, rfl, rfl, s03 _ _ ha, e3, ?_, fun p4 n4 => ?_⟩
    · rw [List.length_take, sizeLine_eq]
      omega
    have s4 := same_upd (o := HO.lst (xs ++ xs.take 1)) n4
    have e4 : (upd H3 p4 (.lst (xs ++ xs.take 1))) p4 = some (.lst (xs ++ xs.take 1)) := upd_same
    generalize upd H3 p4 (.lst (xs ++ xs.take 1)) = H4 at s4 e4
    refine ⟨by show 1 ≤ sizeLine; decide, fun p5 n5 => ?_⟩
    have s5 := same_upd (o := HO.lst [V.non]) n5
    have e5 : (upd H4 p5 (.lst [V.non])) p5 = some (.lst [V.non]) := upd_same
    generalize upd H4 p5 (.lst [V.non]) = H5 at s5 e5
    have s05 := (s03.trans s4).trans s5
    refine ⟨_, rfl, _, rfl, a, xs, rfl, SqL.of (s05 _ _ ha), fun p6 n6 => ?_⟩
    have c5 : cutV xs none (some 5) = xs.take 5 := by
      by_cases h5 : 5 ≤ xs.length
      · exact cut_head xs 5 h5
      · rw [cut_any5 (by omega), List.take_of_length_le (by omega)]
    rw [c5]
    have s6 := same_upd (o := HO.lst (xs.take 5)) n6
    have e6 : (upd H5 p6 (.lst (xs.take 5))) p6 = some (.lst (xs.take 5)) := upd_same
    generalize upd H5 p6 (.lst (xs.take 5)) = H6 at s6 e6
    refine ⟨by show 1 ≤ sizeLine; decide, fun p7 n7 => ?_⟩
    have s7 := same_upd (o := HO.tup [V.str "use"]) n7
    have e7 : (upd H6 p7 (.tup [V.str "use"])) p7 = some (.tup [V.str "use"]) := upd_same
    generalize upd H6 p7 (.tup [V.str "use"]) = H7 at s7 e7
    refine ⟨by show 1 ≤ sizeLine; decide, fun p8 n8 => ?_⟩
    have s8 := same_upd (o := HO.lst [V.ref p7]) n8
    have e8 : (upd H7 p8 (.lst [V.ref p7])) p8 = some (.lst [V.ref p7]) := upd_same
    generalize upd H7 p8 (.lst [V.ref p7]) = H8 at s8 e8
    refine ⟨p6, p8, _, _, rfl, rfl, s8 _ _ (s7 _ _ e6), e8, ?_, fun p9 n9 => ?_⟩
    · rw [List.length_take, sizeLine_eq]
      show min 5 xs.length + 1 ≤ _
      omega
    have s9 := same_upd (o := HO.lst (xs.take 5 ++ [V.ref p7])) n9
    have e9 : (upd H8 p9 (.lst (xs.take 5 ++ [V.ref p7]))) p9 = some (.lst (xs.take 5 ++ [V.ref p7])) := upd_same
    generalize upd H8 p9 (.lst (xs.take 5 ++ [V.ref p7])) = H9 at s9 e9
    refine ⟨by show 1 ≤ sizeLine; decide, fun p10 n10 => ?_⟩
    have s10 := same_upd (o := HO.lst [V.str "bar"]) n10
    have e10 : (upd H9 p10 (.lst [V.str "bar"])) p10 = some (.lst [V.str "bar"]) := upd_same
    generalize upd H9 p10 (.lst [V.str "bar"]) = H10 at s10 e10
    refine ⟨by show 7 ≤ sizeLine; decide, fun p11 n11 => ?_⟩
    have s11 := same_upd (o := HO.lst [V.non, V.ref p1, V.ref p2, V.ref p4, V.ref p5, V.ref p9, V.ref p10]) n11
    have e11 : (upd H10 p11 (.lst [V.non, V.ref p1, V.ref p2, V.ref p4, V.ref p5, V.ref p9, V.ref p10])) p11 = some (.lst [V.non, V.ref p1, V.ref p2, V.ref p4, V.ref p5, V.ref p9, V.ref p10]) := upd_same
    generalize upd H10 p11 (.lst [V.non, V.ref p1, V.ref p2, V.ref p4, V.ref p5, V.ref p9, V.ref p10]) = H11 at s11 e11
    have s811 := (s9.trans s10).trans s11
    have s611 := (s7.trans s8).trans s811
    have s511 := s6.trans s611
    have s0b := s05.trans s511
    have o1 : OddK K d H11 .non := ⟨.other (T := "NoneType") (.base .non) (by decide), _, shO_item (itb none_item) .non⟩
    have o2 : OddK K d H11 (.ref p1) := (oddK_lst (rs := []) (ds := []) (SqL.of e1) .nil rfl (Nat.zero_le _) .nil (Nat.zero_le _) (fun d hd => by cases hd)).same ((s2.trans (s3.trans s4)).trans (s5.trans s511))
    have o3 : OddK K d H11 (.ref p2) := OddK.same ((s3.trans s4).trans (s5.trans s511)) ⟨.other (T := "tuple") (.base (.tup e2)) (by decide), _, shO_tup (by rw [List.length_map]; omega) (itm ss m10) (SqT.of e2) (dq_steps (row_steps (hrow.same (s1.trans s2))))⟩
    have o4 : OddK K d H11 (.ref p4) := by
      refine OddK.same (s5.trans s511) ?_
      have r4 : RowAt K d H4 (xs ++ xs.take 1) (ss ++ ss.take 1) := (hrow.same (s03.trans s4)).append ((hrow.same (s03.trans s4)).take 1)
      have t1 : ss.take 1 = [s0] := by rw [← hss]; rfl
      rw [t1] at r4
      refine oddK_lst (SqL.of e4) (of_rowAt r4) (stkB_twice (by rw [← hss]; exact List.mem_cons_self)) ?_ (dq_steps (row_steps r4)) ?_ (itm _ fun s hs => ?_)
      · rw [List.length_map, List.length_append]
        show ss.length + 1 ≤ 20
        omega
      · rw [List.length_map, List.length_append]
        show ss.length + 1 ≤ 20
        omega
      · rcases List.mem_append.mp hs with hs | hs
        · exact m10 s hs
        · rw [List.mem_singleton.mp hs]
          exact m10 s0 (by rw [← hss]; exact List.mem_cons_self)
    have o5 : OddK K d H11 (.ref p5) := OddK.same s511 (oddK_lst (rs := [none]) (SqL.of e5) (.cons ⟨.other (T := "NoneType") (.base .non) (by decide), fun _ z => by cases z⟩ .nil) (stkB_none (by simp)) (by decide) (.cons .non .nil) (by show 1 ≤ 20; decide) fun d hd => by rw [List.mem_singleton.mp hd]; exact itb none_item)
    have o6 : OddK K d H11 (.ref p9) := by
      refine OddK.same (s10.trans s11) ?_
      have s59 : Same H H9 := (s05.trans s6).trans ((s7.trans s8).trans s9)
      have r5 : RowAt K d H9 (xs.take 5) (ss.take 5) := (hrow.same s59).take 5
      have u7 := s9 _ _ (s8 _ _ e7)
      refine oddK_lst (rs := (ss.take 5).map some ++ [none]) (SqL.of e9) ((of_rowAt r5).append (.cons ⟨.len (SqT.of u7) (by decide), fun _ z => by cases z⟩ .nil)) (stkB_none (by simp)) ?_ (DqAll.append (dq_steps (row_steps r5)) (.cons (.tup (SqT.of u7) (.cons (.str _) .nil)) .nil)) ?_ fun d hd => ?_
      · rw [List.length_append, List.length_map, List.length_take]
        show min 5 ss.length + 1 ≤ 20
        omega
      · rw [List.length_append, List.length_map, List.length_take]
        show min 5 ss.length + 1 ≤ 20
        omega
      · rcases List.mem_append.mp hd with hd | hd
        · exact itm (ss.take 5) (fun s hs => m10 s (List.mem_of_mem_take hs)) d hd
        · rw [List.mem_singleton.mp hd]
          exact itb use_item
    have o7 : OddK K d H11 (.ref p10) := OddK.same s11 (oddK_lst (rs := [none]) (SqL.of e10) (.cons ⟨.other (T := "str") (.base (.str _)) (by decide), fun _ z => by cases z⟩ .nil) (stkB_none (by simp)) (by decide) (.cons (.str _) .nil) (by show 1 ≤ 20; decide) fun d hd => by rw [List.mem_singleton.mp hd]; exact itb bar_item)
    obtain ⟨q0, hq0e, hq0⟩ := (hv0.same s0b).1.step
    have at0 : atI xs 0 = some x0 := by
      rw [← hxs]
      exact atI_nat (xs := x0 :: xt) (j := 0) rfl
    refine ⟨_, rfl, _, rfl, a, xs, 0, x0, rfl, rfl, SqL.of (s0b _ _ ha), at0, q0, _, by rw [hq0e], .inr hq0, fun p12 n12 => ?_⟩
    have s12 := same_upd (o := HO.lst [V.str s0.1, V.str s0.2]) n12
    have e12 : (upd H11 p12 (.lst [V.str s0.1, V.str s0.2])) p12 = some (.lst [V.str s0.1, V.str s0.2]) := upd_same
    generalize upd H11 p12 (.lst [V.str s0.1, V.str s0.2]) = H12 at s12 e12
    refine ⟨by show 1 ≤ sizeLine; decide, fun p13 n13 => ?_⟩
    have s13 := same_upd (o := HO.lst [V.ref p12]) n13
    have e13 : (upd H12 p13 (.lst [V.ref p12])) p13 = some (.lst [V.ref p12]) := upd_same
    generalize upd H12 p13 (.lst [V.ref p12]) = H13 at s13 e13
    refine ⟨by show 1 ≤ sizeLine; decide, fun p14 n14 => ?_⟩
    have s14 := same_upd (o := HO.lst [V.ref p13]) n14
    have e14 : (upd H13 p14 (.lst [V.ref p13])) p14 = some (.lst [V.ref p13]) := upd_same
    generalize upd H13 p14 (.lst [V.ref p13]) = H14 at s14 e14
    have s114 := (s12.trans s13).trans s14
    refine ⟨p11, p14, _, _, rfl, rfl, s114 _ _ e11, e14, by show 8 ≤ sizeLine; decide, fun p15 n15 => ?_⟩
    have s15 := same_upd (o := HO.lst ([V.non, V.ref p1, V.ref p2, V.ref p4, V.ref p5, V.ref p9, V.ref p10] ++ [V.ref p13])) n15
    have e15 : (upd H14 p15 (.lst ([V.non, V.ref p1, V.ref p2, V.ref p4, V.ref p5, V.ref p9, V.ref p10] ++ [V.ref p13]))) p15 = some (.lst ([V.non, V.ref p1, V.ref p2, V.ref p4, V.ref p5, V.ref p9, V.ref p10] ++ [V.ref p13])) := upd_same
    generalize upd H14 p15 (.lst ([V.non, V.ref p1, V.ref p2, V.ref p4, V.ref p5, V.ref p9, V.ref p10] ++ [V.ref p13])) = H15 at s15 e15
    have s1115 := s114.trans s15
    have o8 : OddK K d H15 (.ref p13) := by
      refine OddK.same (s14.trans s15) ?_
      have u12 := s13 _ _ e12
      exact oddK_lst (rs := [none]) (SqL.of e13) (.cons ⟨.other (T := "list") (.base (.lst u12)) (by decide), fun _ z => by cases z⟩ .nil) (stkB_none (by simp)) (by decide) (.cons (.lst (SqL.of u12) (.cons (.str _) (.cons (.str _) .nil))) .nil) (by show 1 ≤ 20; decide) fun d hd => by
        rw [List.mem_singleton.mp hd]
        have z := m10 s0 (by rw [← hss]; exact List.mem_cons_self)
        exact stepL_itb z.1 z.2
    have odds : ∀ v ∈ [V.non, V.ref p1, V.ref p2, V.ref p4, V.ref p5, V.ref p9, V.ref p10] ++ [V.ref p13], OddK K d H15 v := by
      intro v hv
      simp only [List.cons_append, List.nil_append, List.mem_cons, List.mem_nil_iff, or_false] at hv
      rcases hv with rfl | rfl | rfl | rfl | rfl | rfl | rfl | rfl
      · exact o1.same s1115
      · exact o2.same s1115
      · exact o3.same s1115
      · exact o4.same s1115
      · exact o5.same s1115
      · exact o6.same s1115
      · exact o7.same s1115
      · exact o8
    generalize [V.non, V.ref p1, V.ref p2, V.ref p4, V.ref p5, V.ref p9, V.ref p10] ++ [V.ref p13] = vs8 at e15 odds
    have s015 := s0b.trans s1115
    refine ⟨p15, rfl, ⟨_, SqL.of e15⟩, for_list (K := K) (a := p15) (xs := vs8) (fun i σ H' => ∃ (v2 v3 v4 v5 : Option V), σ = [some (.ref a), some (.ref r), v2, v3, v4, v5] ∧ Same H15 H') ⟨_, _, _, _, rfl, Same.refl _⟩ (fun i σ H' _ ⟨_, _, _, _, _, z⟩ => z.seq (SqL.of e15)) ?_ ?_⟩
    · rintro i v σ H16 hv ⟨v2, v3, v4, v5, rfl, s16⟩
      obtain ⟨stv, dv, sh⟩ := (odds v (List.mem_of_getElem? hv)).same s16
      refine ⟨_, rfl, _, rfl, v, .int (-1), false, false, rfl, stv, ix_no (.inl (by decide)), fun z => (nomatch z), fun _ => ⟨dv, sh.sh, fun H17 p s17 np e17 => ?_⟩, fun z => nomatch z⟩
      refine said (i := 3) rfl (sh.same s17) fun p2 np2 => ne_two stock_ok sh.ok (same_upd np2 _ _ e17) upd_same ⟨_, rfl, ?_⟩
      exact iteF ⟨_, _, _, _, rfl, s16.trans (s17.trans (same_upd np2))⟩
    rintro σ H16 ⟨v2, v3, v4, v5, rfl, s16⟩
    dsimp only
    refine seqS_in ?_
    refine tLcA_lay (bars.map V.str) (fun Qa h => by exact h) (by show 7 ≤ sizeLine; decide) fun pn H17 s17 nn e17 => ?_
    refine fun D nD => lc_list (K := K) (a := pn) (xs := bars.map V.str) (fun i H' => ∃ ws, Same H17 H' ∧ H' D = some (.lst ws) ∧ RowAt K d H' ws (barS.take i)) ⟨[], same_upd nD, upd_same, .nil⟩ (fun i H' _ ⟨_, z, _⟩ => z.seq (SqL.of e17)) ?_ ?_
    · rintro i v H18 hv ⟨ws, s18, e18, hws⟩
      rw [List.getElem?_map] at hv
      obtain ⟨n, hn, rfl⟩ := Option.map_eq_some_iff.mp hv
      have hb : barS[i]? = some (("bar" : Str), n) := by
        unfold barS
        rw [List.getElem?_map, hn]
        rfl
      have lws := hws.length
      refine ⟨rfl, ?_⟩
      dsimp only [tYes]
      rw [if_pos rfl]
      refine ⟨_, rfl, by show 2 ≤ sizeLine; decide, fun y ny => ?_⟩
      have s19 := same_upd (o := HO.tup [V.str "bar", V.str n]) ny
      have hy : SqT K (upd H18 y (.tup [V.str "bar", V.str n])) y [V.str "bar", V.str n] := SqT.of upd_same
      generalize upd H18 y (.tup [V.str "bar", V.str n]) = H19 at s19 hy
      have mb := barS_mem _ (List.mem_of_getElem? hb)
      have sv : SVG K d H19 (.ref y) (some (("bar" : Str), n)) := svg12 hW mb.1 mb.2 hy
      have e19 := s19 _ _ e18
      refine ⟨ws, e19, ?_, ws ++ [.ref y], same_updN nD (s18.trans s19), upd_same, ?_⟩
      · rw [lws, List.length_take, sizeLine_eq, show barS.length = 7 from rfl]
        omega
      · rw [take_snoc hb]
        exact (All2.mono (fun _ _ t => svg_upd e19 t) (hws.same s19)).append (.cons (svg_upd e19 sv) .nil)
    rintro H18 ⟨ws, s18, e18, hws⟩
    have hws : RowAt K d H18 ws barS := hws
    have lws : ws.length = 7 := hws.length
    have s1518 := s16.trans (s17.trans s18)
    have shb : ShowsO K H18 (.ref D) (.list (barS.map stepD)) := shO_list (by decide) (itm barS barS_mem) (SqL.of e18) (dq_steps (row_steps hws))
    have stb : StkV K d H18 (.ref D) false := by
      have z := StkV.lst (K := K) (d := d) (SqL.of e18) (of_rowAt hws) (by decide)
      rwa [stkB_long (by decide)] at z
    refine ⟨_, rfl, .ref D, .int 0, false, true, rfl, stb, ix_yes (by decide) (by decide), fun z => (nomatch z), fun _ => ⟨_, shb.sh, fun H19 p s19 np e19 => ?_⟩, fun z => nomatch z⟩
    refine said (i := 4) rfl (shb.same s19) fun p2 np2 => ne_two stock_ok shb.ok (same_upd np2 _ _ e19) upd_same ⟨_, rfl, ?_⟩
    have s20 := s19.trans (same_upd (o := HO.lst [V.str "stock", V.str (PyData.list (barS.map stepD)).shown]) np2)
    generalize upd H19 p2 (.lst [V.str "stock", V.str (PyData.list (barS.map stepD)).shown]) = H20 at s20
    refine iteF ?_
    refine ⟨_, rfl, _, rfl, D, ws, rfl, SqL.of (s20 _ _ e18), fun pm nm => ?_⟩
    have c6 : cutV ws none (some 6) = ws.take 6 := cut_head ws 6 (by omega)
    rw [c6]
    have s21 := same_upd (o := HO.lst (ws.take 6)) nm
    have e21 : (upd H20 pm (.lst (ws.take 6))) pm = some (.lst (ws.take 6)) := upd_same
    generalize upd H20 pm (.lst (ws.take 6)) = H21 at s21 e21
    have r6 : RowAt K d H21 (ws.take 6) (barS.take 6) := (hws.same (s20.trans s21)).take 6
    have st6 : StkV K d H21 (.ref pm) true := by
      have z := StkV.lst (K := K) (d := d) (SqL.of e21) (of_rowAt r6) (by decide)
      rwa [stkB_good (by decide) (by decide) bar_nd] at z
    refine ⟨.ref pm, .int 1, true, true, rfl, st6, ix_yes (by decide) (by decide), fun _ _ => ⟨pm, _, barS.take 6, 1, rfl, SqL.of e21, r6, by decide, rfl, by decide, fun H22 p ys s22 np e22 al => ?_⟩, fun z => (nomatch z), fun _ z => nomatch z⟩
    have l7 : ys.length = 7 := by rw [al.length]; exact bar7
    refine ⟨p, ys, rfl, .inl (SqL.of e22), rfl, _, rfl, ?_⟩
    rw [l7]
    refine iteF ?_
    have s1522 := s1518.trans ((s20.trans s21).trans s22)
    -- numbers
    refine next_in ?_
    dsimp only
    refine seqS_in ?_
    refine tFor_lay [V.int (-1), V.int 7, V.bl true, V.non, V.str "1"] (fun Qa h => ⟨_, rfl, h⟩) (by show 5 ≤ sizeLine; decide) fun pk H23 sk nk ek => ?_
    have s023 := s015.trans (s1522.trans sk)
    have stS : StkV K d H23 (.ref a) true := by
      have z := StkV.lst (K := K) (d := d) (SqL.of (s023 _ _ ha)) (of_rowAt (hrow.same s023)) (by rw [List.length_map]; omega)
      rwa [stkB_good h1 h6 nd] at z
    have oddN : ∀ v ∈ [V.int (-1), V.int 7, V.bl true, V.non, V.str "1"], OddI K 7 H23 v := by
      intro v hv
      simp only [List.mem_cons, List.mem_nil_iff, or_false] at hv
      rcases hv with rfl | rfl | rfl | rfl | rfl
      · exact ⟨ix_no (.inl (by decide)), _, shO_item (itb i1_item) (.int _)⟩
      · exact ⟨ix_no (.inr (by decide)), _, shO_item (itb i7_item) (.int _)⟩
      · exact ⟨.bl _, _, shO_item (itb true_item) (.bl _)⟩
      · exact ⟨.other (T := "NoneType") (.base .non) (by decide), _, shO_item (itb none_item) .non⟩
      · exact ⟨.other (T := "str") (.base (.str _)) (by decide), _, shO_item (itb one_item) (.str _)⟩
    generalize [V.int (-1), V.int 7, V.bl true, V.non, V.str "1"] = vs5 at ek oddN
    refine for_list (K := K) (a := pk) (xs := vs5) (fun i σ H' => ∃ (v2 v3 v4 v5 : Option V), σ = [some (.ref a), some (.ref r), v2, v3, v4, v5] ∧ Same H23 H') ⟨_, _, _, _, rfl, Same.refl _⟩ (fun i σ H' _ ⟨_, _, _, _, _, z⟩ => z.seq (SqL.of ek)) ?_ ?_
    · rintro i v σ H24 hv ⟨v2, v3, v4, v5, rfl, s24⟩
      obtain ⟨stv, dv, sh⟩ := (oddN v (List.mem_of_getElem? hv)).same s24
      refine ⟨_, rfl, _, rfl, .ref a, v, true, false, rfl, stS.same s24, stv, fun _ z => (nomatch z), fun z => (nomatch z), fun _ _ => ⟨dv, sh.sh, fun H25 p s25 np e25 => ?_⟩⟩
      refine said (i := 3) rfl (sh.same s25) fun p2 np2 => ne_two none_ok sh.ok (same_upd np2 _ _ e25) upd_same ⟨_, rfl, ?_⟩
      exact iteF ⟨_, _, _, _, rfl, s24.trans (s25.trans (same_upd np2))⟩
    rintro σ H24 ⟨w2, w3, w4, w5, rfl, s24⟩
    dsimp only
    refine seqS_in ?_
    refine tFor_lay [V.int (-1), V.int 1001, V.bl true, V.non, V.str "1", V.int (10 ^ 30)] (fun Qa h => ⟨_, rfl, _, _, rfl, rfl, ⟨by decide, by decide, by decide⟩, h⟩) (by show 6 ≤ sizeLine; decide) fun pj H25 sj nj ej => ?_
    have s025 := s023.trans (s24.trans sj)
    have oddM : ∀ v ∈ [V.int (-1), V.int 1001, V.bl true, V.non, V.str "1", V.int (10 ^ 30)], OddI K 1001 H25 v := by
      intro v hv
      simp only [List.mem_cons, List.mem_nil_iff, or_false] at hv
      rcases hv with rfl | rfl | rfl | rfl | rfl | rfl
      · exact ⟨ix_no (.inl (by decide)), _, shO_item (itb i1_item) (.int _)⟩
      · exact ⟨ix_no (.inr (by decide)), _, shO_item (itb i1001_item) (.int _)⟩
      · exact ⟨.bl _, _, shO_item (itb true_item) (.bl _)⟩
      · exact ⟨.other (T := "NoneType") (.base .non) (by decide), _, shO_item (itb none_item) .non⟩
      · exact ⟨.other (T := "str") (.base (.str _)) (by decide), _, shO_item (itb one_item) (.str _)⟩
      · refine ⟨ix_no (.inr (by decide)), _, ⟨⟨.int _, .inl rfl, big_ok.2.1, by decide, ?_⟩, big_ok.1⟩⟩
        have z := big_ok.2.2
        rw [sizeLine_eq]
        omega
    generalize [V.int (-1), V.int 1001, V.bl true, V.non, V.str "1", V.int (10 ^ 30)] = vs6 at ej oddM
    refine for_list (K := K) (a := pj) (xs := vs6) (fun i σ H' => ∃ (v2 v3 v4 v5 : Option V), σ = [some (.ref a), some (.ref r), v2, v3, v4, v5] ∧ Same H25 H') ⟨_, _, _, _, rfl, Same.refl _⟩ (fun i σ H' _ ⟨_, _, _, _, _, z⟩ => z.seq (SqL.of ej)) ?_ ?_
    · rintro i v σ H26 hv ⟨v2, v3, v4, v5, rfl, s26⟩
      obtain ⟨stv, dv, sh⟩ := (oddM v (List.mem_of_getElem? hv)).same s26
      refine ⟨_, rfl, _, rfl, _, rfl, r, v, .int (-5), false, false, [], rfl, hr0.same (s025.trans s26), by decide, stv, ix_no (.inl (by decide)), fun z => (nomatch z), fun _ => ⟨dv, sh.sh, fun H27 p s27 np e27 => ?_⟩, fun z => nomatch z⟩
      refine said (i := 3) rfl (sh.same s27) fun p2 np2 => ne_two none_ok sh.ok (same_upd np2 _ _ e27) upd_same ⟨_, rfl, ?_⟩
      have s28 := s27.trans (same_upd (o := HO.lst [V.str "none", V.str dv.shown]) np2)
      generalize upd H27 p2 (.lst [V.str "none", V.str dv.shown]) = H28 at s28
      refine iteF ?_
      refine ⟨_, rfl, _, rfl, r, .int 0, v, true, false, [], rfl, hr0.same ((s025.trans s26).trans s28), by decide, ix_yes (by decide) (by decide), stv.same s28, fun _ z => (nomatch z), fun z => (nomatch z), fun _ _ => ⟨dv, (sh.same s28).sh, fun H29 p s29 np e29 => ?_⟩⟩
      refine said (i := 3) rfl (sh.same (s28.trans s29)) fun p2 np2 => ne_two none_ok sh.ok (same_upd np2 _ _ e29) upd_same ⟨_, rfl, ?_⟩
      exact iteF ⟨_, _, _, _, rfl, s26.trans (s28.trans (s29.trans (same_upd np2)))⟩
    rintro σ H26 ⟨w2, w3, w4, w5, rfl, s26⟩
    exact q _ (s025.trans s26)
end
end Rw

/-! U13 -/
/-! ### append within a try -/
namespace L2
open PySem PySem.Spec PyProof.Rows
section
variable {X : Cx} {CX : CXT} {k : Nat} {f g C : Addr} {fd : FuncData} {ps : List Str} {sp : Sp} {E : St → XK} {a b : Expr} {ta tb : TE} {pos : Pos}
/-- own + of two of one class, within a try -/
theorem pe_addSS {K : PySem.W.Frag} (hK : X.K = K) (A : AddC K C f g) (F : FnOk X.prog X.w X.K X.mg X.base CX k f fd ps sp) (hr : Room k X.A) (hb : Binds X.K fd ps []) (hx : ∀ σ, PassesAt CX X σ (E σ)) (ha : PE X a ta) (hb' : PE X b tb) : PE X (.BinOp a .Add b pos) (tOpS (rAddS C sp) E ta tb) := by
  subst hK
  refine ⟨fun pins s σ H Q I h => ?_⟩
  refine wpAny_BinOp (binT (R := fun x y H2 => rAddS C sp (E σ) x y H2 Q) ha hb' I h fun v u s2 x y H2 I2 rx ry q => ?_)
  obtain ⟨m, n, dm, dn, fs, gs, rfl, rfl, hm, hn, q⟩ := q
  cases (show v = Value.ref m from rx)
  cases (show u = Value.ref n from ry)
  obtain ⟨mA, O, _⟩ := ins_get I2.hok hm
  obtain ⟨od, J, _⟩ := O.look
  obtain ⟨mB, O2, _⟩ := ins_get I2.hok hn
  obtain ⟨od2, J2, _⟩ := O2.look
  refine PySem.LwX.add_same I2.kIn J J2 A.hc A.hs A.hf ?_
  exact thn (run_fnS (us := [.ref m, .ref n]) (vs := [.ref m, .ref n]) F hr hb (hx σ) I2 (.cons rfl (.cons rfl .nil)) q) fun _ _ z => back_ref z
end
end L2
/-! ### what is added -/
namespace Rw
open PySem PySem.Spec PyProof.Rows L2
section
variable {P : Program} {w : World} {K : PySem.W.Frag} {mg : Str → Option Value} {base : Heap}
end
end Rw

/-! ### what is no tuple -/
namespace Rw
open PySem PySem.Spec PyProof.Rows L2
theorem make0 {K : PySem.W.Frag} {d C CI : Addr} {σ : L2.St} {H : Hp} {Q : VK} (q : ∀ x H1, Same H H1 → IsRow K C d H1 x [] → Q (.ref x) H1) : StX.tMakeR C (spStar (spRI K d C CI)) (fun _ _ _ => False) tNil σ H Q := by
  intro x dx nx nd ne
  refine made_of (rs := []) .nil (Nat.zero_le _) ⟨fun hf ss e x H1 s1 row => ?_, fun v hv => by cases hv⟩ nx nd ne
  have es : ss = [] := by
    cases ss with
    | nil => rfl
    | cons a b => cases e
  subst es
  exact q x H1 s1 row
section
variable {P : Program} {w : World} {K : PySem.W.Frag} {mg : Str → Option Value} {base : Heap}
end
end Rw

/-! ### the law -/
namespace Rw
open PySem PySem.Spec PyProof.Rows L2
theorem PoolAt.ne {H : Hp} {o q a : Addr} (p : PoolAt H o q) (h : H a = none) : a ≠ o := fun z => by
  obtain ⟨_, _, e, _⟩ := p
  rw [z, e] at h
  cases h
theorem ops_in2 {r : XK → R2} {E : L2.St → XK} {ta tb : TE} {σ : L2.St} {H : Hp} {Q : VK} (h : ta σ H fun x H1 => tb σ H1 fun y H2 => r (E σ) x y H2 Q) : tOpS r E ta tb σ H Q := h
section
variable {P : Program} {w : World} {K : PySem.W.Frag} {mg : Str → Option Value} {base : Heap}
end
end Rw

/-! ### the law -/
namespace Rw
open PySem PySem.Spec PyProof.Rows L2
def nW (t : List Step) : Nat := (t.filter fun s => waitW s.1).length
theorem nW_le (t : List Step) : nW t ≤ t.length := List.length_filter_le _ _
theorem nW_snoc (t : List Step) (s : Step) : nW (t ++ [s]) = nW t + if waitW s.1 = true then 1 else 0 := by
  unfold nW
  rw [List.filter_append, List.length_append]
  congr 1
  by_cases h : waitW s.1 = true
  · rw [if_pos h, List.filter_cons_of_pos (by exact h)]; rfl
  · rw [if_neg h, List.filter_cons_of_neg (by exact h)]; rfl
theorem cost_app (s t : List Step) (a b : Int) : cost (s ++ t) a b = cost s a b + cost t a b := by
  unfold cost
  rw [List.map_append, List.sum_append]
theorem cost_eq (a b : Int) : ∀ t : List Step, cost t a b = a * (nW t : Int) + b * ((t.length : Int) - (nW t : Int))
  | [] => by
    show (0 : Int) = a * 0 + b * (0 - 0)
    rw [Int.sub_self, Int.mul_zero, Int.mul_zero]
    rfl
  | s :: t => by
    have ih := cost_eq a b t
    have e : cost (s :: t) a b = (if waitW s.1 = true then a else b) + cost t a b := by
      unfold cost
      rw [List.map_cons, List.sum_cons]
    have n : (nW (s :: t) : Int) = (if waitW s.1 = true then 1 else 0) + (nW t : Int) := by
      unfold nW
      by_cases h : waitW s.1 = true
      · rw [if_pos h, List.filter_cons_of_pos (by exact h), List.length_cons]; omega
      · rw [if_neg h, List.filter_cons_of_neg (by exact h)]; omega
    rw [e, n, ih, List.length_cons]
    by_cases h : waitW s.1 = true
    · rw [if_pos h, if_pos h, Int.mul_add, Int.mul_one]
      have z : ((t.length + 1 : Nat) : Int) - (1 + (nW t : Int)) = (t.length : Int) - (nW t : Int) := by omega
      rw [z, Int.add_assoc]
    · rw [if_neg h, if_neg h, Int.zero_add]
      have z : ((t.length + 1 : Nat) : Int) - (nW t : Int) = 1 + ((t.length : Int) - (nW t : Int)) := by omega
      rw [z, Int.mul_add, Int.mul_one]
      omega
theorem good_iff {t : List Step} : goodR t = true ↔ ∀ b ∈ wrongs t [] [], b = false := by
  unfold goodR
  rw [Bool.not_eq_true', List.any_eq_false]
  constructor
  · intro h b hb
    have z := h b hb
    cases b with
    | false => rfl
    | true => exact absurd rfl z
  · intro h b hb z
    have y := h b hb
    have z : b = true := z
    rw [y] at z
    cases z
theorem after_nil : ∀ (ss : List Step) (h : List Str), (∀ b ∈ wrongs ss h [], b = false) → h.Nodup → (∀ n ∈ h, (("give" : Str), n) ∈ ss) → after ss h = []
  | [], h, _, _, m => by
    cases h with
    | nil => rfl
    | cons n h => exact absurd (m n List.mem_cons_self) (by simp)
  | s :: ss, h, w, nd, m => by
    have w0 : wrongS s ss [] h = false := w _ List.mem_cons_self
    have w1 : ∀ b ∈ wrongs ss (behind s h) [], b = false := fun b hb => w b (List.mem_cons_of_mem _ hb)
    show after ss (behind s h) = []
    have tg : ("take" : Str) ≠ "give" := by decide +kernel
    by_cases hg : s.1 = "give"
    · have hb : behind s h = h.dropLast := by
        unfold behind
        rw [if_neg (by rw [hg]; exact Ne.symm tg), if_pos hg]
      unfold wrongS at w0
      rw [if_pos hg, Bool.not_eq_false', decide_eq_true_eq] at w0
      rw [hb] at w1 ⊢
      have hl : h = h.dropLast ++ [s.2] := by
        have z := List.take_append_drop (h.length - 1) h
        rw [w0, ← List.dropLast_eq_take] at z
        exact z.symm
      have nd2 := nd
      rw [hl] at nd2
      have dj := List.nodup_append.mp nd2
      refine after_nil ss _ w1 dj.1 fun n hn => ?_
      have hm := m n (List.dropLast_subset _ hn)
      rcases List.mem_cons.mp hm with e | e
      · exact absurd (by rw [← e]) (dj.2.2 n hn s.2 (List.mem_singleton.mpr rfl))
      · exact e
    · unfold wrongS at w0
      rw [if_neg hg] at w0
      by_cases ht : s.1 = "take"
      · have hb : behind s h = h ++ [s.2] := by
          unfold behind
          rw [if_pos ht]
        rw [if_pos ht] at w0
        rw [hb] at w1 ⊢
        by_cases hi : s.2 ∈ [] ++ h
        · rw [if_pos hi] at w0; cases w0
        · rw [if_neg hi, Bool.not_eq_false', decide_eq_true_eq] at w0
          refine after_nil ss _ w1 (List.nodup_append.mpr ⟨nd, by simp, fun a ha b hb z => ?_⟩) fun n hn => ?_
          · rw [List.mem_singleton.mp hb] at z
            rw [z] at ha
            exact hi ha
          · rcases List.mem_append.mp hn with hn | hn
            · rcases List.mem_cons.mp (m n hn) with e | e
              · exact absurd (by rw [← e]) hg
              · exact e
            · rw [List.mem_singleton.mp hn]
              exact w0
      · have hb : behind s h = h := by
          unfold behind
          rw [if_neg ht, if_neg hg]
        rw [hb] at w1 ⊢
        refine after_nil ss _ w1 nd fun n hn => ?_
        rcases List.mem_cons.mp (m n hn) with e | e
        · exact absurd (by rw [← e]) hg
        · exact e
theorem wrongs_app : ∀ (ss ts : List Step) (h : List Str), (∀ b ∈ wrongs ss h [], b = false) → (∀ b ∈ wrongs ts (after ss h) [], b = false) → ∀ b ∈ wrongs (ss ++ ts) h [], b = false
  | [], ts, h, _, w => w
  | s :: ss, ts, h, w, w2 => by
    have w0 : wrongS s ss [] h = false := w _ List.mem_cons_self
    have ih := wrongs_app ss ts (behind s h) (fun b hb => w b (List.mem_cons_of_mem _ hb)) w2
    intro b hb
    rcases List.mem_cons.mp (show b ∈ wrongS s (ss ++ ts) [] h :: wrongs (ss ++ ts) (behind s h) [] from hb) with rfl | hb
    · unfold wrongS at w0 ⊢
      by_cases hg : s.1 = "give"
      · rw [if_pos hg] at w0 ⊢
        exact w0
      · rw [if_neg hg] at w0 ⊢
        by_cases ht : s.1 = "take"
        · rw [if_pos ht] at w0 ⊢
          by_cases hi : s.2 ∈ [] ++ h
          · rw [if_pos hi] at w0; cases w0
          · rw [if_neg hi, Bool.not_eq_false', decide_eq_true_eq] at w0
            rw [if_neg hi, decide_eq_true (List.mem_append_left _ w0)]
            rfl
        · rw [if_neg ht]
    · exact ih b hb
theorem good_twice {t : List Step} (h : goodR t = true) : goodR (t ++ t) = true := by
  rw [good_iff] at h ⊢
  refine wrongs_app t t [] h ?_
  rw [after_nil t [] h List.nodup_nil (fun n hn => by cases hn)]
  exact h
/-! the data of a listing -/
def rowsD (rows : List (List Step)) : PyData := .list (rows.map fun t => .list (t.map stepD))
theorem rowsD_lay : ∀ rows : List (List Step), (∀ t ∈ rows, ∀ s ∈ t, GoodS s) → PyData.canLayAll0 (rows.map fun t => .list (t.map stepD)) = true ∧ PyData.depthAll (rows.map fun t => .list (t.map stepD)) ≤ 2
  | [], _ => ⟨rfl, Nat.zero_le _⟩
  | t :: rows, h => by
    obtain ⟨a, b⟩ := rowsD_lay rows fun x hx => h x (List.mem_cons_of_mem _ hx)
    obtain ⟨c, e⟩ := stepsD_lay t (h t List.mem_cons_self)
    constructor
    · simp only [List.map_cons, PyData.canLayAll0, PyData.canLay0, a, c]
      rfl
    · simp only [List.map_cons, PyData.depthAll, PyData.depth]
      omega
theorem rowsD_ok {rows : List (List Step)} (h : ∀ t ∈ rows, ∀ s ∈ t, GoodS s) : (rowsD rows).canLay0 = true ∧ SeqAt.shaped (rowsD rows) = true := by
  obtain ⟨a, b⟩ := rowsD_lay rows h
  have c : (rowsD rows).canLay0 = true := by
    unfold rowsD
    simp only [PyData.canLay0]
    exact a
  refine ⟨c, shaped_of c ?_⟩
  unfold rowsD
  simp only [PyData.depth]
  omega
theorem lst_dp {K : PySem.W.Frag} {d : Addr} {H : Hp} : ∀ {ys : List V} {rows : List (List Step)}, All2 (LstS K d H) ys rows → DpAll K H ys (rows.map fun t => .list (t.map stepD))
  | [], [], _ => .nil
  | y :: ys, t :: rows, .cons h r => by
    obtain ⟨p, xs, rfl, e, rr⟩ := h
    exact .cons (.lst (SqL.of e) (row_steps rr).dp) (lst_dp r)
theorem lst_good {K : PySem.W.Frag} {d : Addr} {H : Hp} : ∀ {ys : List V} {rows : List (List Step)}, All2 (LstS K d H) ys rows → ∀ t ∈ rows, ∀ s ∈ t, GoodS s
  | [], [], _ => fun t ht => by cases ht
  | y :: ys, t :: rows, .cons h r => fun x hx => by
    rcases List.mem_cons.mp hx with rfl | hx
    · exact h.good
    · exact lst_good r x hx
theorem ne_int {a b : Int} (h : a = b) : (!decide (V.int a = V.int b)) = false := by
  rw [h, decide_eq_true rfl]
  rfl
theorem two_some {t ss : List Step} (e : t.map some ++ t.map some = ss.map some) : ss = t ++ t := by
  have z := congrArg (List.filterMap id) e
  rw [List.filterMap_append, fm_some, fm_some] at z
  exact z.symm
def spLaw (K : PySem.W.Frag) : Sp := fun vs H Q _ => ∃ (a : Addr) (ns : List Int), vs = [.ref a] ∧ SqL K H a (ns.map V.int) ∧ ns.length ≤ 63 ∧ ∀ H', Q (.bl true) H'
section
variable {P : Program} {w : World} {K : PySem.W.Frag} {mg : Str → Option Value} {base : Heap}
abbrev sLaw : Stmt := top 49
theorem scLaw : FnScope ["_law_script", "_law_k", "_law_cell", "_law_pool_here", "_law_stock", "_law_longest", "_law_one", "_law_other", "_law_found", "_law_kept", "_law_steps", "_law_waits", "_law_row", "_law_rest", "_law_step"] ["_law_script"] (defScope sLaw) := ⟨rfl, rfl, rfl, by decide +kernel, rfl, by decide +kernel, by decide +kernel⟩
theorem ok_law {f fP fD fK fS fR fL fX fPr fQ fA fI fRR C d CI CN : Addr} {fd fdP fdD fdK fdS fdR fdL fdX fdPr fdQ fdA : FuncData} (F : Fun K "law" "law" sLaw f fd) (R : RowC K mg C fI fA fRR)
    (GP : FnOk P w K mg base CX0 2 fP fdP ["_law_cell", "_law_salt", "_law_many"] (spPool K)) (TP : Called K mg "_law_pool" ["_law_cell", "_law_salt", "_law_many"] fP fdP)
    (GD : FnOk P w K mg base CX0 1 fD fdD ["_law_pool_here", "_law_many"] (spDraw K)) (TD : Called K mg "_law_draw" ["_law_pool_here", "_law_many"] fD fdD)
    (GK : FnOk P w K mg base CX0 2 fK fdK ["_law_pool_here", "_law_some"] (spPick K)) (TK : Called K mg "_law_pick" ["_law_pool_here", "_law_some"] fK fdK)
    (GS : FnOk P w K mg base CX0 3 fS fdS ["_law_pool_here"] (spDrawn K d)) (TS : Called K mg "_law_drawn_stock" ["_law_pool_here"] fS fdS)
    (GR : FnOkG P w K mg base CX0 8 fR fdR ["_law_stock", "_law_longest"] (spLRows K d)) (TR : Called K mg "_law_rows" ["_law_stock", "_law_longest"] fR fdR)
    (GL : FnOk P w K mg base CX0 2 fL fdL ["_law_stock", "_law_longest"] (spListed K d)) (TL : Called K mg "_law_listed" ["_law_stock", "_law_longest"] fL fdL)
    (GX : FnOkG P w K mg base CX0 9 fX fdX ["_law_stock", "_law_row"] (spRefused K C d)) (TX : Called K mg "_law_refused" ["_law_stock", "_law_row"] fX fdX)
    (GQ : FnOkG P w K mg base CX0 6 fQ fdQ ["_law_row", "_law_one", "_law_other"] (spLPrice K C d)) (TQ : Called K mg "_law_price" ["_law_row", "_law_one", "_law_other"] fQ fdQ)
    (GPr : FnOk P w K mg base (L2.CX P w) 5 fPr fdPr ["row", "wait", "plain"] (spPrice K C d CN)) (gPr : mg "price" = some (.ref fPr)) (FP : FunD K "price" "price" (defArgs sPr) (defBody sPr) (defScope sPr) [] [("wait", .int 3), ("plain", .int 1)] fPr fdPr)
    (GI : FnR P w K mg base (L2.CX P w) 4 fI (spStar (spRI K d C CI)))
    (GA : FnOk P w K mg base (L2.CX P w) 6 fA fdA ["self", "other"] (spAdd K C d CI)) (bA : Binds K fdA ["self", "other"] [])
    (m_enumerate : mg "enumerate" = none) (m_int : mg "int" = none) (m_len : mg "len" = none) (m_tuple : mg "tuple" = none) (m_list : mg "list" = none) (m_min : mg "min" = none) : FnOkG P w K mg base CX0 10 f fd ["_law_script"] (spLaw K) := by
  obtain ⟨ds0, vs0, bd0⟩ := kb_none FP
  obtain ⟨mv1, KBp⟩ := kb_plain FP
  obtain ⟨mv2, KBw⟩ := kb_wait FP
  refine F.okG scLaw (fun vs H Q E h => ?_) (fun cdv A outer s H vs Q E' hgd hr h => ?_)
  · obtain ⟨a, ns, rfl, _⟩ := h
    rfl
  · obtain ⟨a, ns, rfl, hS, hlen, q⟩ := h
    refine ⟨_, (pss_cons (ps_for PassesOwn.never rfl (pi_enum (by rfl) m_enumerate (pa_cons (pe_op op_cat (pe_slice sl_list (pv 0) po_none (po_some pe_int)) (pe_op op_rep (pe_lst (pa_cons pe_int pa_nil)) (pe_callTy call_int1 (by rfl) m_int (by decide +kernel) (pa_cons (pe_cmpR (Nm.op_eqDK (K := K) rfl hr.units) (pv 0) (pe_lst pa_nil) (nomark _)) pa_nil)))) pa_nil)) (pg_tup rfl (pgs_cons (pg_name (i := 1) scLaw.nd rfl (.inl rfl)) (pgs_cons (pg_name (i := 2) scLaw.nd rfl (.inl rfl)) pgs_nil)))
       (pss_cons (ps_set (i := 3) scLaw.nd rfl (.inl rfl) (pe_call GP (hr.mono (by first | decide | omega)) rfl TP.1 TP.2.1 TP.2.2 .nil pass0 (pa_cons (pv 2) (pa_cons (pe_op op_add pe_int (pv 1)) (pa_cons pe_int pa_nil)))))
       (pss_cons (ps_par (i := 4) (j := 5) rfl scLaw.nd rfl rfl (by decide) rfl rfl (pa_cons (pe_call GS (hr.mono (by first | decide | omega)) rfl TS.1 TS.2.1 TS.2.2 .nil pass0 (pa_cons (pv 3) pa_nil)) (pa_cons (pe_call GD (hr.mono (by first | decide | omega)) rfl TD.1 TD.2.1 TD.2.2 .nil pass0 (pa_cons (pv 3) (pa_cons pe_int pa_nil))) pa_nil)) (by rfl))
       (pss_cons (ps_set (i := 5) scLaw.nd rfl (.inl rfl) (pe_ifExp (pt_cmpR op_gt (pe_callB (call_len_K (K := K) rfl) (by rfl) m_len PySem.boot_len (pa_cons (pv 4) pa_nil)) pe_int (nomark _))
       (pe_callB (call_min2 rfl) (by rfl) m_min (by decide +kernel) (pa_cons (pv 5) (pa_cons pe_int pa_nil)))
       (pv 5)))
       (pss_cons (ps_par (i := 6) (j := 7) rfl scLaw.nd rfl rfl (by decide) rfl rfl (pa_cons (pe_op op_mul (pe_call GD (hr.mono (by first | decide | omega)) rfl TD.1 TD.2.1 TD.2.2 .nil pass0 (pa_cons (pv 3) (pa_cons pe_int pa_nil))) pe_int) (pa_cons (pe_call GK (hr.mono (by first | decide | omega)) rfl TK.1 TK.2.1 TK.2.2 .nil pass0 (pa_cons (pv 3) (pa_cons (pe_lst (pa_cons pe_int (pa_cons pe_int (pa_cons pe_int (pa_cons pe_int pa_nil))))) pa_nil))) pa_nil)) (by rfl))
       (pss_cons (ps_par (i := 8) (j := 9) rfl scLaw.nd rfl rfl (by decide) rfl rfl (pa_cons (pe_callG GR hgd (hr.mono (by first | decide | omega)) rfl TR.1 TR.2.1 TR.2.2 pass0 (pa_cons (pv 4) (pa_cons (pv 5) pa_nil))) (pa_cons (pe_callTy (call_list_K (K := K) rfl) (by rfl) m_list (by decide +kernel) (pa_cons (pv 4) pa_nil)) pa_nil)) (by rfl))
       (pss_cons (ps_if (PW.pt (pw_or (pt_cmpR (Nm.op_neDK (K := K) rfl hr.units) (pv 8) (pe_call GL (hr.mono (by first | decide | omega)) rfl TL.1 TL.2.1 TL.2.2 .nil pass0 (pa_cons (pv 4) (pa_cons (pv 5) pa_nil))) (nomark _)) (pw_or1 (pt_cmpR (Nm.op_neDK (K := K) rfl hr.units) (pv 4) (pv 9) (nomark _)))))
       (pss_one (ps_ret pe_bl))
       pss_nil)
       (pss_cons (ps_for PassesOwn.never rfl (pi_list (pe_slice sl_list (pv 8) po_none (po_some pe_int))) (pg_name (i := 10) scLaw.nd rfl (.inl rfl))
       (pss_cons (ps_set (i := 11) scLaw.nd rfl (.inl rfl) (pe_callB (call_len_K (K := K) rfl) (by rfl) m_len PySem.boot_len (pa_cons (pe_lc (own := [("_law_step", 14)]) (g := gName 14)  (by rfl) scLaw.nd (pi_list (pv 10)) (blkOk_by (own := [("_law_step", 14)]) (N := ["_law_script", "_law_k", "_law_cell", "_law_pool_here", "_law_stock", "_law_longest", "_law_one", "_law_other", "_law_found", "_law_kept", "_law_steps", "_law_waits", "_law_row", "_law_rest", "_law_step"]) (sc := defScope sLaw) (by decide +kernel)) (fun _ _ _ _ _ => (pg_name (i := 14) scLaw.nd rfl (Or.inl rfl))) (fun _ _ _ _ _ => (pts_one (pt_cmpR (op_in_seqKK (K := K) rfl) (pe_ix (ix_tupK (K := K) rfl) (pv 14) pe_int (fun _ _ => rfl)) (pe_lst (pa_cons pe_str (pa_cons pe_str (pa_cons pe_str pa_nil)))) (by rfl)))) (fun _ _ _ _ _ => (pv 14))) pa_nil)))
       (pss_cons (ps_set (i := 12) scLaw.nd rfl (.inl rfl) (pe_addTS (K := K) rfl R.add GA (hr.mono (by decide)) bA (fun σ => passAt takes0 σ) (pe_makeR0 R.mkC GI (hr.mono (by decide)) rfl R.g (passes_call takes0 (E := fun _ _ _ => False) fun _ _ _ _ h => h.elim)) (pe_callTy (call_tuple_K (K := K) rfl) (by rfl) m_tuple (by decide +kernel) (pa_cons (pv 10) pa_nil))))
       (pss_cons (ps_set (i := 13) scLaw.nd rfl (.inl rfl) (pe_op op_sub (pe_callB (call_len_K (K := K) rfl) (by rfl) m_len PySem.boot_len (pa_cons (pv 10) pa_nil)) (pv 11)))
       (pss_cons (ps_if (PW.pt (pw_or (pt_cmpR op_ne (pe_call GPr (hr.mono (by decide)) rfl gPr FP.kp bd0 vs0 (passes_call takes0 (E := fun _ _ _ => False) fun _ _ _ _ h => h.elim) (pa_cons (pv 12) pa_nil)) (pe_op op_add (pe_op op_mul pe_int (pv 11)) (pv 13)) (nomark _)) (pw_or1 (pt_cmpR op_ne (pe_callN GPr (hr.mono (by decide)) rfl gPr FP.kp KBp (passes_call takes0 (E := fun _ _ _ => False) fun _ _ _ _ h => h.elim) (pa_cons (pv 12) pa_nil) (pk_cons (pv 7) pk_nil)) (pe_op op_add (pe_op op_mul pe_int (pv 11)) (pe_op op_mul (pv 7) (pv 13))) (nomark _)))))
       (pss_one (ps_ret pe_bl))
       pss_nil)
       (pss_cons (ps_if (pt_cmpR op_ne (pe_callG GQ hgd (hr.mono (by first | decide | omega)) rfl TQ.1 TQ.2.1 TQ.2.2 pass0 (pa_cons (pv 12) (pa_cons (pv 6) (pa_cons (pv 7) pa_nil)))) (pe_op op_add (pe_op op_mul (pv 6) (pv 11)) (pe_op op_mul (pv 7) (pv 13))) (nomark _))
       (pss_one (ps_ret pe_bl))
       pss_nil)
       (pss_one (ps_if (PW.pt (pw_and (pt_cmpR op_lt (pe_callB (call_len_K (K := K) rfl) (by rfl) m_len PySem.boot_len (pa_cons (pv 10) pa_nil)) pe_int (nomark _)) (pw_and1 (pt_cmpR op_ne (pe_callN GPr (hr.mono (by decide)) rfl gPr FP.kp KBw (passes_call takes0 (E := fun _ _ _ => False) fun _ _ _ _ h => h.elim) (pa_cons (pe_addSS (K := K) rfl R.add GA (hr.mono (by decide)) bA (fun σ => passAt takes0 σ) (pv 12) (pv 12)) pa_nil) (pk_cons (pv 6) pk_nil)) (pe_op op_mul pe_int (pe_callN GPr (hr.mono (by decide)) rfl gPr FP.kp KBw (passes_call takes0 (E := fun _ _ _ => False) fun _ _ _ _ h => h.elim) (pa_cons (pv 12) pa_nil) (pk_cons (pv 6) pk_nil))) (nomark _)))))
       (pss_one (ps_ret pe_bl))
       pss_nil))))))))
       (pss_one (ps_if (pt_not (pt_val (pe_callG GX hgd (hr.mono (by first | decide | omega)) rfl TX.1 TX.2.1 TX.2.2 pass0 (pa_cons (pv 4) (pa_cons (pe_makeR0 R.mkC GI (hr.mono (by decide)) rfl R.g (passes_call takes0 (E := fun _ _ _ => False) fun _ _ _ _ h => h.elim)) pa_nil)))))
       (pss_one (ps_ret pe_bl))
       pss_nil))))))))))
       (pss_one (ps_ret pe_bl))), ?_⟩
    refine ⟨.ref a, rfl, 4, rfl, a, ns.map V.int, rfl, hS, fun c nc => ?_⟩
    have t0 := same_upd (o := HO.lst (cutV (ns.map V.int) none (some 4))) nc
    refine ⟨(by show 1 ≤ sizeLine; decide), fun l nl => ?_⟩
    have t1 := same_upd (o := HO.lst [V.int 7]) nl
    refine ⟨.ref a, rfl, (by show 0 ≤ sizeLine; decide), fun e ne => ?_⟩
    have t2 := same_upd (o := HO.lst []) ne
    refine ⟨.list (ns.map .int), .list [], .lst (((t0.trans t1).trans t2).seq hS) (dp_ints ns), .lst (SqL.of upd_same) .nil, shaped_ints ns, (by decide), ?_⟩
    generalize PyData.eqv (.list (ns.map .int)) (.list []) = b
    refine .inr ⟨b, rfl, ?_⟩
    have hb : ∃ k : Nat, k ≤ 1 ∧ (if b = true then (1 : Int) else 0) = k := by
      cases b
      · exact ⟨0, by decide, rfl⟩
      · exact ⟨1, by decide, rfl⟩
    obtain ⟨kb, hk1, hkb⟩ := hb
    rw [hkb]
    obtain ⟨ms, hms, hml⟩ := ints_of_cut ns 4 kb
    refine ⟨l, kb, _, rfl, rfl, t2 _ _ upd_same, by omega, by omega, ?_, fun r nr => ?_⟩
    · show 1 * ((kb : Int)).toNat ≤ sizeLine
      rw [sizeLine_eq]
      omega
    have t3 := same_upd (o := HO.lst (List.replicate ((kb : Int)).toNat [V.int 7]).flatten) nr
    refine ⟨c, r, _, _, rfl, rfl, ((t1.trans t2).trans t3) _ _ upd_same, upd_same, ?_, fun L nL => ?_⟩
    · have z : (cutV (ns.map V.int) none (some 4)).length ≤ (ns.map V.int).length := cutV_length _ _ _
      have z2 : (List.replicate ((kb : Int)).toNat [V.int 7]).flatten.length ≤ 1 := by
        match kb, hk1 with
        | 0, _ => decide
        | 1, _ => decide
      rw [List.length_map] at z
      rw [sizeLine_eq]
      omega
    have t4 := same_upd (o := HO.lst (cutV (ns.map V.int) none (some 4) ++ (List.replicate ((kb : Int)).toNat [V.int 7]).flatten)) nL
    have hms' : cutV (ns.map V.int) none (some 4) ++ (List.replicate ((kb : Int)).toNat [V.int 7]).flatten = ms.map V.int := hms
    rw [hms']
    rw [hms'] at t4
    have hml2 : ms.length ≤ 64 := by omega
    refine ⟨L, ms.map V.int, rfl, SqL.of upd_same, for_enum (K := K) (a := L) (xs := ms.map V.int)
      (fun i σ H' => ∃ v1 v2 v3 v4 v5 v6 v7 v8 v9 v10 v11 v12 v13 v14 : Option V, σ = [some (.ref a), v1, v2, v3, v4, v5, v6, v7, v8, v9, v10, v11, v12, v13, v14] ∧ H' L = some (.lst (ms.map V.int)))
      ⟨none, none, none, none, none, none, none, none, none, none, none, none, none, none, rfl, upd_same⟩ (fun i σ H' _ ⟨_, _, _, _, _, _, _, _, _, _, _, _, _, _, _, hL⟩ => SqL.of hL) ?_ ?_⟩
    · rintro i x σ H1 T1 hxi ⟨v1, v2, v3, v4, v5, v6, v7, v8, v9, v10, v11, v12, v13, v14, rfl, hL⟩ nT
      have hi : i < ms.length := by
        have z := (List.getElem?_eq_some_iff.mp hxi).1
        rw [List.length_map] at z
        exact z
      obtain ⟨cell, rfl⟩ : ∃ cell : Int, x = .int cell := by
        rw [List.getElem?_map] at hxi
        obtain ⟨y, _, hy⟩ := Option.map_eq_some_iff.mp hxi
        exact ⟨y, hy.symm⟩
      have u0 := same_upd (o := .tup [.int (i : Nat), .int cell]) nT
      refine ⟨T1, _, rfl, SqT.of upd_same, rfl, _, _, rfl, _, _, rfl, rfl, ?_⟩
      refine ⟨_, rfl, _, rfl, _, _, rfl, rfl, cell, 5500 + (i : Nat), 60, rfl, by omega, by omega, by decide, by decide, fun H2 o qq s2 no hp2 => ?_⟩
      have s02 := u0.trans s2
      have hL2 := s02 _ _ hL
      have nLo : L ≠ o := ne_of_none (u0 _ _ hL) no
      refine ⟨_, rfl, o, qq, rfl, hp2, fun H3 p xs ss b3 hp3 np e3 row3 nd h1 h6 hm => ?_⟩
      have po : p ≠ o := hp2.ne np
      refine ⟨_, rfl, o, qq, 7, rfl, hp3, by decide, by decide, fun H4 n4 b4 hp4 n40 n41 => ⟨_, _, rfl, ?_⟩⟩
      have e4 := b4 _ _ po e3
      have row4 := rowAt_pool b4 hp3 row3
      have hL4 := b4 _ _ nLo (b3 _ _ nLo hL2)
      have lrow := row4.length
      obtain ⟨n, rfl⟩ : ∃ n : Nat, n4 = (n : Nat) := ⟨n4.toNat, by rw [Int.toNat_of_nonneg n40]⟩
      clear b3 b4 hp2 hp3 row3 e3
      dsimp only
      refine seqS_in ?_
      refine asg_via (fun v H5 => ∃ M : Nat, v = natV M ∧ M ≤ 6 ∧ H5 = H4) ?_ ?_
      · intro Qx hQ
        refine ⟨_, rfl, p, xs, rfl, .inl (SqL.of e4), _, _, rfl, rfl, _, rfl, ?_⟩
        by_cases h5 : (5 : Int) < (xs.length : Nat)
        · rw [decide_eq_true h5]
          refine iteT ⟨_, rfl, _, _, rfl, ?_⟩
          by_cases h4 : (4 : Int) < (n : Nat)
          · rw [if_pos h4]
            exact hQ _ _ ⟨4, rfl, by decide, rfl⟩
          · rw [if_neg h4]
            exact hQ _ _ ⟨n, rfl, by omega, rfl⟩
        · rw [decide_eq_false h5]
          exact iteF ⟨_, rfl, hQ _ _ ⟨n, rfl, by omega, rfl⟩⟩
      rintro v H5 ⟨M, rfl, hM, rfl⟩
      refine ⟨_, rfl, o, qq, 420, rfl, hp4, by decide, by decide, fun H6 n6 b6 hp6 n60 n61 => ?_⟩
      refine ⟨_, _, rfl, rfl, .inr ⟨by decide, by decide⟩, _, rfl, by show 4 ≤ sizeLine; decide, fun l6 nl6 => ?_⟩
      have s7 := same_upd (o := HO.lst [V.int 0, V.int 1, V.int 7, V.int 1000]) nl6
      have e7 : (upd H6 l6 (.lst [V.int 0, V.int 1, V.int 7, V.int 1000])) l6 = some (.lst [V.int 0, V.int 1, V.int 7, V.int 1000]) := upd_same
      have l6o : l6 ≠ o := hp6.ne nl6
      generalize upd H6 l6 (.lst [V.int 0, V.int 1, V.int 7, V.int 1000]) = H7 at s7 e7
      refine ⟨o, qq, l6, _, rfl, hp6.same s7, l6o, SqL.of e7, by simp, by decide, fun H8 x8 b8 hp8 m8 => ⟨_, _, rfl, ?_⟩⟩
      obtain ⟨j, rfl, j0, j1⟩ : ∃ j : Int, x8 = .int j ∧ 0 ≤ j ∧ j ≤ 1000 := by
        simp only [List.mem_cons, List.mem_nil_iff, or_false] at m8
        rcases m8 with rfl | rfl | rfl | rfl <;> exact ⟨_, rfl, by decide, by decide⟩
      have e8 := b8 _ _ po (s7 _ _ (b6 _ _ po e4))
      have row8 := rowAt_pool b8 (hp6.same s7) ((rowAt_pool b6 hp4 row4).same s7)
      have hL8 := b8 _ _ nLo (s7 _ _ (b6 _ _ nLo hL4))
      clear b6 b8 hp4 hp6 hp8 row4 e4 e7 s7 nl6 hL4 hL2
      have one0 : 0 ≤ n6 * 2 := by omega
      have one1 : n6 * 2 < 1001 := by omega
      have st8 : StkV K d H8 (.ref p) true := by
        have z := StkV.lst (K := K) (d := d) (SqL.of e8) (of_rowAt row8) (by rw [List.length_map]; omega)
        rwa [stkB_good h1 h6 nd] at z
      refine ⟨_, rfl, _, rfl, .ref p, natV M, true, true, rfl, st8, ix_yes (by omega) (by omega), fun _ _ => ⟨p, xs, ss, M, rfl, SqL.of e8, row8, h6, rfl, hM, fun H9 pf ys s9 npf e9 al => ?_⟩, fun z => (nomatch z), fun _ z => nomatch z⟩
      refine ⟨_, rfl, p, xs, rfl, .inl (SqL.of (s9 _ _ e8)), fun pk nk => ⟨_, _, rfl, ?_⟩⟩
      have s10 := same_upd (o := HO.lst xs) nk
      have e10 : (upd H9 pk (.lst xs)) pk = some (.lst xs) := upd_same
      generalize upd H9 pk (.lst xs) = H10 at s10 e10
      have s810 := s9.trans s10
      have lal := al.length
      have gall := lst_good al
      obtain ⟨lay, shp⟩ := rowsD_ok gall
      dsimp only
      refine seqS_in ?_
      refine ⟨_, rfl, _, rfl, _, rfl, p, xs, ss, M, rfl, SqL.of (s810 _ _ e8), row8.same s810, h6, hM, fun H11 pl zs s11 npl e11 al2 => ?_⟩
      rw [← rows_listed nd M] at al2
      have s811 := s810.trans s11
      refine ⟨rowsD (rowsUp ss (M + 1)), rowsD (rowsUp ss (M + 1)), .lst (SqL.of (s11 _ _ (s10 _ _ e9))) (lst_dp (al.mono fun _ _ t => t.same (s10.trans s11))), .lst (SqL.of e11) (lst_dp al2), shp, shp, _, rfl, ?_⟩
      rw [SeqAt.eqv_refl _ lay]
      refine iteF ?_
      have glay := stepsD_lay ss (row_good row8)
      have slay : (PyData.list (ss.map stepD)).canLay0 = true := by
        simp only [PyData.canLay0]
        exact glay.1
      refine ⟨_, rfl, _, rfl, .list (ss.map stepD), .list (ss.map stepD), .lst (SqL.of (s811 _ _ e8)) (row_steps (row8.same s811)).dp, .lst (SqL.of (s11 _ _ e10)) (row_steps (row8.same s811)).dp, stepsL_shaped (row_good row8), stepsL_shaped (row_good row8), _, rfl, ?_⟩
      rw [SeqAt.eqv_refl _ slay]
      refine iteF ?_
      refine next_in ?_
      dsimp only
      refine seqS_in ?_
      have ef := s11 _ _ (s10 _ _ e9)
      have all11 := al.mono fun _ _ t => LstS.same (s10.trans s11) t
      refine ⟨_, rfl, _, rfl, pf, ys, rfl, SqL.of ef, fun p40 n40 => ?_⟩
      have c40 : cutV ys none (some 40) = ys.take 40 := cut_any ys 40
      rw [c40]
      have s12 := same_upd (o := HO.lst (ys.take 40)) n40
      have e12 : (upd H11 p40 (.lst (ys.take 40))) p40 = some (.lst (ys.take 40)) := upd_same
      generalize upd H11 p40 (.lst (ys.take 40)) = H12 at s12 e12
      have s812 := s811.trans s12
      have all12 : All2 (LstS K d H12) (ys.take 40) ((rowsUp ss (M + 1)).take 40) := (all11.mono fun _ _ t => LstS.same s12 t).take 40
      refine ⟨p40, rfl, ⟨_, SqL.of e12⟩, for_list (K := K) (a := p40) (xs := ys.take 40) (fun k σ H' => ∃ (w10 w11 w12 w13 w14 : Option V), σ = [some (.ref a), some (.int (i : Nat)), some (.int cell), some (.ref o), some (.ref p), some (natV M), some (.int (n6 * 2)), some (.int j), some (.ref pf), some (.ref pk), w10, w11, w12, w13, w14] ∧ Same H12 H')
        ⟨_, _, _, _, _, rfl, Same.refl _⟩ (fun k σ H' _ ⟨_, _, _, _, _, _, z⟩ => z.seq (SqL.of e12)) ?_ ?_⟩
      · rintro k v σ H13 hv ⟨w10, w11, w12, w13, w14, rfl, s13⟩
        obtain ⟨t, ht, hls⟩ := all12.get hv
        have tm : t ∈ rowsUp ss (M + 1) := List.mem_of_mem_take (List.mem_of_getElem? ht)
        rw [rows_listed nd M] at tm
        obtain ⟨tm2, tg⟩ := List.mem_filter.mp tm
        obtain ⟨tl, _⟩ := allUp_mem tm2
        obtain ⟨rp, rxs, rfl, er, rr⟩ := hls.same s13
        have lrr := rr.length
        have wle := nW_le t
        have nofault : fault (t.map some) = none := fault_good (by omega) tg
        have wb : ∀ {H' : Hp}, Same H12 H' → Same H8 H' := fun z => s812.trans z
        refine ⟨_, rfl, rp, rfl, ⟨_, SqL.of er⟩, fun D nD => lc_list (K := K) (a := rp) (xs := rxs) (fun m H' => ∃ ws, Same H13 H' ∧ H' D = some (.lst ws) ∧ ws.length = nW (t.take m)) ⟨[], same_upd nD, upd_same, rfl⟩ (fun m H' _ ⟨_, z, _⟩ => z.seq (SqL.of er)) ?_ ?_⟩
        · rintro m y H14 hy ⟨ws, s14, e14, hw⟩
          obtain ⟨st, hst, hvy⟩ := rr.get hy
          obtain ⟨q1, hq1e, hq1⟩ := (hvy.same s14).1.step
          have nle := nW_le (t.take m)
          rw [List.length_take] at nle
          subst hq1e
          refine ⟨rfl, _, rfl, q1, _, 0, _, rfl, rfl, hq1, rfl, by show 3 ≤ sizeLine; decide, fun l nl => ?_⟩
          have s15 := same_upd (o := HO.lst waits) nl
          have e15 : (upd H14 l (.lst waits)) l = some (.lst waits) := upd_same
          refine ⟨l, waits, rfl, .inl (SqL.of e15), rfl, rfl, _, rfl, ?_⟩
          show if waitW st.1 = true then _ else _
          rw [take_snoc hst, nW_snoc]
          by_cases hb : waitW st.1 = true
          · rw [if_pos hb, if_pos hb]
            exact ⟨_, rfl, ws, s15 _ _ e14, by rw [hw, sizeLine_eq]; omega, ws ++ [.ref q1], same_updN nD (s14.trans s15), upd_same, by rw [List.length_append, hw]; rfl⟩
          · rw [if_neg hb, if_neg hb]
            exact ⟨ws, s14.trans s15, s15 _ _ e14, by rw [hw]; rfl⟩
        rintro H14 ⟨ws, s14, e14, hw⟩
        rw [lrr, List.take_length] at hw
        refine ⟨D, ws, rfl, .inl (SqL.of e14), ?_⟩
        rw [hw]
        dsimp only
        refine seqS_in ?_
        refine ops_in2 ?_
        refine make0 (d := d) (CI := CI) fun x H15 s15 row0 => ?_
        have s1315 := s14.trans s15
        refine ⟨_, rfl, rp, rxs, rfl, .inl ⟨SqL.of (s1315 _ _ er), fun tp nt => ?_⟩⟩
        have s16 := same_upd (o := HO.tup rxs) nt
        have e16 : (upd H15 tp (.tup rxs)) tp = some (.tup rxs) := upd_same
        generalize upd H15 tp (.tup rxs) = H16 at s16 e16
        have row0' := row0.same s16
        obtain ⟨dx0, p0, hh0, ys0, zs0, k0, _⟩ := id row0'
        have s1316 := s1315.trans s16
        refine ⟨x, dx0, _, "tuple", rfl, k0, .base (.tup e16), R.aT "tuple" (by decide), x, .ref tp, [], some (t.map some), rfl, row0', .tup (SqT.of e16) (of_rowAt (rr.same s1316)), by decide, fun rs e => by cases e; rw [List.length_map]; omega, fun rs e => ?_, fun e => nomatch e⟩
        cases e
        refine ⟨fun hf ss' e xr H17 s17 row => ⟨⟨xr, rfl⟩, ?_⟩, fun v hv t2 H2 lf => ?_⟩
        rotate_left
        · have hv : fault (t.map some) = some v := hv
          rw [nofault] at hv
          cases hv
        have es : ss' = t := by
          have z := congrArg (List.filterMap id) (show t.map some = ss'.map some from e)
          rw [fm_some, fm_some] at z
          exact z.symm
        rw [es] at row
        have s1317 := s1316.trans s17
        have e11a : cost t 3 1 = 3 * (nW t : Int) + ((rxs.length : Nat) - (nW t : Int)) := by rw [cost_eq, lrr, Int.one_mul]
        have e2a : cost t 3 j = 3 * (nW t : Int) + j * ((rxs.length : Nat) - (nW t : Int)) := by rw [cost_eq, lrr]
        have e3a : cost t (n6 * 2) j = n6 * 2 * (nW t : Int) + j * ((rxs.length : Nat) - (nW t : Int)) := by rw [cost_eq, lrr]
        refine name_in ?_
        dsimp only
        refine seqS_in ?_
        refine ⟨_, rfl, rp, rxs, rfl, .inl (SqL.of (s1317 _ _ er)), _, rfl, _, _, rfl, rfl, ?_⟩
        refine name_in ?_
        dsimp only
        refine seqS_in ?_
        refine ⟨_, rfl, xr, .int 3, .int 1, true, true, t, rfl, row, by omega, ix_yes (by decide) (by decide), ix_yes (by decide) (by decide), fun _ _ => ⟨3, 1, rfl, rfl, fun H18 s18 => ?_⟩, fun z => (nomatch z), fun _ z => nomatch z⟩
        refine ⟨_, rfl, _, _, rfl, rfl, .inl ⟨by decide, by decide⟩, _, rfl, _, _, rfl, rfl, rfl, _, rfl, ?_⟩
        show if (!decide (V.int (cost t 3 1) = V.int (3 * (nW t : Int) + ((rxs.length : Nat) - (nW t : Int))))) = true then _ else _
        rw [ne_int e11a]
        refine iteF ?_
        refine ⟨_, rfl, _, rfl, rfl, rfl, xr, .int 3, .int j, true, true, t, rfl, row.same s18, by omega, ix_yes (by decide) (by decide), ix_yes j0 (by omega), fun _ _ => ⟨3, j, rfl, rfl, fun H19 s19 => ?_⟩, fun z => (nomatch z), fun _ z => nomatch z⟩
        refine ⟨_, rfl, _, _, rfl, rfl, .inl ⟨by decide, by decide⟩, _, rfl, _, rfl, _, _, rfl, rfl, .inl ⟨by omega, by omega⟩, _, _, rfl, rfl, rfl, _, rfl, ?_⟩
        show if (!decide (V.int (cost t 3 j) = V.int (3 * (nW t : Int) + j * ((rxs.length : Nat) - (nW t : Int))))) = true then _ else _
        rw [ne_int e2a]
        refine iteF ?_
        refine next_in ?_
        dsimp only
        refine seqS_in ?_
        have s1719 := s18.trans s19
        refine ⟨_, rfl, _, rfl, _, rfl, xr, .int (n6 * 2), .int j, true, true, t, rfl, row.same s1719, by omega, ix_yes one0 one1, ix_yes j0 (by omega), fun _ _ => ⟨n6 * 2, j, rfl, rfl, fun H20 s20 => ?_⟩, fun z => (nomatch z), fun _ z => nomatch z⟩
        refine ⟨_, rfl, _, rfl, _, _, rfl, rfl, .inl ⟨by omega, by omega⟩, _, rfl, _, rfl, _, _, rfl, rfl, .inl ⟨by omega, by omega⟩, _, _, rfl, rfl, rfl, _, rfl, ?_⟩
        show if (!decide (V.int (cost t (n6 * 2) j) = V.int (n6 * 2 * (nW t : Int) + j * ((rxs.length : Nat) - (nW t : Int))))) = true then _ else _
        rw [ne_int e3a]
        refine iteF ?_
        refine next_in ?_
        dsimp only
        have s1720 := s1719.trans s20
        have s1320 := s1317.trans s1720
        refine ⟨_, rfl, rp, rxs, rfl, .inl (SqL.of (s1320 _ _ er)), _, _, rfl, rfl, _, rfl, ?_⟩
        by_cases h5 : ((rxs.length : Nat) : Int) < 5
        · rw [decide_eq_true h5]
          refine iteT ?_
          have row20 := row.same s1720
          obtain ⟨dx1, p1, hh1, ys1, zs1, k1, _⟩ := id row20
          refine ⟨_, rfl, _, rfl, xr, xr, dx1, dx1, _, _, rfl, rfl, k1, k1, xr, .ref xr, t, some (t.map some), rfl, row20, .row row20, by omega, fun rs e => by cases e; rw [List.length_map]; omega, fun rs e => ?_, fun e => nomatch e⟩
          cases e
          refine ⟨fun hf ss2 e2 x2 H22 s22 row2 => ⟨⟨x2, rfl⟩, ?_⟩, fun v hv t' H2 lf => ?_⟩
          rotate_left
          · have hv : fault (t.map some ++ t.map some) = some v := hv
            rw [← List.map_append, fault_good (by rw [List.length_append]; omega) (good_twice tg)] at hv
            cases hv
          have es2 : ss2 = t ++ t := two_some e2
          rw [es2] at row2
          have e4a : cost (t ++ t) (n6 * 2) 1 = 2 * cost t (n6 * 2) 1 := by rw [cost_app]; omega
          refine ⟨_, rfl, rfl, rfl, x2, .int (n6 * 2), .int 1, true, true, t ++ t, rfl, row2, by rw [List.length_append]; omega, ix_yes one0 one1, ix_yes (by decide) (by decide), fun _ _ => ⟨n6 * 2, 1, rfl, rfl, fun H23 s23 => ?_⟩, fun z => (nomatch z), fun _ z => nomatch z⟩
          refine ⟨_, rfl, _, rfl, rfl, rfl, xr, .int (n6 * 2), .int 1, true, true, t, rfl, (row20.same s22).same s23, by omega, ix_yes one0 one1, ix_yes (by decide) (by decide), fun _ _ => ⟨n6 * 2, 1, rfl, rfl, fun H24 s24 => ⟨_, _, rfl, rfl, .inl ⟨by decide, by decide⟩, rfl, _, rfl, ?_⟩⟩, fun z => (nomatch z), fun _ z => nomatch z⟩
          show if (!decide (V.int (cost (t ++ t) (n6 * 2) 1) = V.int (2 * cost t (n6 * 2) 1))) = true then _ else _
          rw [ne_int e4a]
          exact iteF ⟨_, _, _, _, _, rfl, s13.trans (s1320.trans ((s22.trans s23).trans s24))⟩
        · rw [decide_eq_false h5]
          exact iteF (iteF ⟨_, _, _, _, _, rfl, s13.trans s1320⟩)
      · rintro σ H13 ⟨w10, w11, w12, w13, w14, rfl, s13⟩
        dsimp only
        refine ⟨_, rfl, ?_⟩
        refine make0 (d := d) (CI := CI) fun x H14 s14 row0 => ?_
        have s814 := s812.trans (s13.trans s14)
        refine ⟨p, x, xs, ss, rfl, s814 _ _ e8, row8.same s814, nd, h1, h6, hm, row0, fun H15 s15 => ⟨_, rfl, ?_⟩⟩
        exact iteF ⟨_, _, _, _, _, _, _, _, _, _, _, _, _, _, rfl, (s814.trans s15) _ _ hL8⟩
    · rintro σ H5 ⟨_, _, _, _, _, _, _, _, _, _, _, _, _, _, rfl, _⟩
      exact q _
end
end Rw

/-! U14 -/
namespace Rw
open PySem PySem.Spec PyProof.Rows L2 GenW
open PySem.W (findIn typeIn keepIn codeIn subIn nsIn hasDictIn mroIn specialIn takesIn kitOne isFn selfFirst makesIn plainGet plainOver exmOne)
/-- which class is below which, by computation -/
def kitB (K : PySem.W.Frag) (cR cS cN : Addr) : Bool := (exmOne K (.ref cS) (.ref cS) == some true) && ((exmOne K (.ref cN) (.ref cS) == some false) && ((exmOne K (.ref cN) (.ref cN) == some true) && ((kitOne K (.ref cR) (.ref cR) == some true) && (["NoneType", "bool", "int", "list", "str", "dict", "tuple"].all fun T => kitOne K (.type T) (.ref cR) == some false))))
theorem kit_of_B {K : PySem.W.Frag} {cR cS cN : Addr} (h : kitB K cR cS cN = true) : exmOne K (.ref cS) (.ref cS) = some true ∧ exmOne K (.ref cN) (.ref cS) = some false ∧ exmOne K (.ref cN) (.ref cN) = some true ∧ kitOne K (.ref cR) (.ref cR) = some true ∧ ∀ T ∈ ["NoneType", "bool", "int", "list", "str", "dict", "tuple"], kitOne K (.type T) (.ref cR) = some false := by
  unfold kitB at h
  simp only [Bool.and_eq_true, beq_iff_eq] at h
  exact ⟨h.1, h.2.1, h.2.2.1, h.2.2.2.1, fun T hT => beq_iff_eq.mp (List.all_eq_true.mp h.2.2.2.2 T hT)⟩
theorem all_mk {P : Program} {w : World} {K : PySem.W.Frag} {h : Heap} {mg : Str → Option Value} {fa : Addr} (X : K.In h) (G : h.Ns mainGlobals mg) (hfa : mg "law" = some (.ref fa))
    {cD : Addr}
    {nmI qI : Str} {NI : Addr} {bsI : List Value} {snI : List Str} {subI : List Value} {abI : Bool} {colI : Option Bool} {ddI : Option Addr} {m0I m1I m2I m3I m5I : Option Value} {cI fI : Addr}
    {nmS qS : Str} {NS : Addr} {bsS : List Value} {snS : List Str} {subS : List Value} {abS : Bool} {colS : Option Bool} {ddS : Option Addr} {m0S m1S m2S m3S m5S : Option Value} {cS fS : Addr}
    {nmN qN : Str} {NN : Addr} {bsN : List Value} {snN : List Str} {subN : List Value} {abN : Bool} {colN : Option Bool} {ddN : Option Addr} {m0N m1N m2N m3N m5N : Option Value} {cN fN : Addr}
    {cR : Addr}
    {fo0 ro0 : Option Value}
    {fo1 ro1 : Option Value}
    {fo2 ro2 : Option Value}
    {fo3 ro3 : Option Value}
    {fo4 ro4 : Option Value}
    {fo5 ro5 : Option Value}
    {fo6 ro6 : Option Value}
    {aW : Addr} {odW : Option Addr} {tW0 tW1 tW2 : Tok} {nWw : Nat} {slW : Array (Option Value)}
    {dK : Addr} {esK : Array DictEntry} {nK : Nat} {tkL tkS tkM tkQ : Tok}
    {u0 : Value}
    {u1 : Value}
    {u2 : Value}
    {u3 : Value}
    {u4 : Value}
    {u5 : Value}
    {u6 : Value}
    {u7 : Value}
    {u8 : Value}
    {u9 : Value}
    {fName : Addr} {ocName dcName pmName cdName ctName kVName : Value} {odName anName : Option Addr} {slName : Array (Option Value)}
    {fStep : Addr} {ocStep dcStep pmStep cdStep ctStep kVStep : Value} {odStep anStep : Option Addr} {slStep : Array (Option Value)}
    {fBr : Addr} {ocBr dcBr pmBr cdBr ctBr kVBr : Value} {odBr anBr : Option Addr} {slBr : Array (Option Value)}
    {fBeh : Addr} {ocBeh dcBeh pmBeh cdBeh ctBeh kVBeh : Value} {odBeh anBeh : Option Addr} {slBeh : Array (Option Value)}
    {fHeld : Addr} {ocHeld dcHeld pmHeld cdHeld ctHeld kVHeld : Value} {odHeld anHeld : Option Addr} {slHeld : Array (Option Value)}
    {fWr : Addr} {ocWr dcWr pmWr cdWr ctWr kVWr : Value} {odWr anWr : Option Addr} {slWr : Array (Option Value)}
    {fWL : Addr} {ocWL dcWL pmWL cdWL ctWL kVWL : Value} {odWL anWL : Option Addr} {slWL : Array (Option Value)}
    {fCh : Addr} {ocCh dcCh pmCh cdCh ctCh kVCh : Value} {odCh anCh : Option Addr} {slCh : Array (Option Value)}
    {fIn : Addr} {ocIn dcIn pmIn cdIn ctIn kVIn : Value} {odIn anIn : Option Addr} {slIn : Array (Option Value)}
    {fIx : Addr} {ocIx dcIx pmIx cdIx ctIx kVIx : Value} {odIx anIx : Option Addr} {slIx : Array (Option Value)}
    {fGR : Addr} {ocGR dcGR pmGR cdGR ctGR kVGR : Value} {odGR anGR : Option Addr} {slGR : Array (Option Value)}
    {fCNm : Addr} {ocCNm dcCNm pmCNm cdCNm ctCNm kVCNm : Value} {odCNm anCNm : Option Addr} {slCNm : Array (Option Value)}
    {fCPr : Addr} {ocCPr dcCPr pmCPr cdCPr ctCPr kVCPr : Value} {odCPr anCPr : Option Addr} {slCPr : Array (Option Value)}
    {fCLg : Addr} {ocCLg dcCLg pmCLg cdCLg ctCLg kVCLg : Value} {odCLg anCLg : Option Addr} {slCLg : Array (Option Value)}
    {fISt : Addr} {ocISt dcISt pmISt cdISt ctISt kVISt : Value} {odISt anISt : Option Addr} {slISt : Array (Option Value)}
    {fCSt : Addr} {ocCSt dcCSt pmCSt cdCSt ctCSt kVCSt : Value} {odCSt anCSt : Option Addr} {slCSt : Array (Option Value)}
    {fLC : Addr} {ocLC dcLC pmLC cdLC ctLC kVLC : Value} {odLC anLC : Option Addr} {slLC : Array (Option Value)}
    {fRO : Addr} {ocRO dcRO pmRO cdRO ctRO kVRO : Value} {odRO anRO : Option Addr} {slRO : Array (Option Value)}
    {fCo : Addr} {ocCo dcCo pmCo cdCo ctCo kVCo : Value} {odCo anCo : Option Addr} {slCo : Array (Option Value)}
    {fNum : Addr} {ocNum dcNum pmNum cdNum ctNum kVNum : Value} {odNum anNum : Option Addr} {slNum : Array (Option Value)}
    {fPool : Addr} {ocPool dcPool pmPool cdPool ctPool kVPool : Value} {odPool anPool : Option Addr} {slPool : Array (Option Value)}
    {fDraw : Addr} {ocDraw dcDraw pmDraw cdDraw ctDraw kVDraw : Value} {odDraw anDraw : Option Addr} {slDraw : Array (Option Value)}
    {fPick : Addr} {ocPick dcPick pmPick cdPick ctPick kVPick : Value} {odPick anPick : Option Addr} {slPick : Array (Option Value)}
    {fBal : Addr} {ocBal dcBal pmBal cdBal ctBal kVBal : Value} {odBal anBal : Option Addr} {slBal : Array (Option Value)}
    {fLst : Addr} {ocLst dcLst pmLst cdLst ctLst kVLst : Value} {odLst anLst : Option Addr} {slLst : Array (Option Value)}
    {fLRo : Addr} {ocLRo dcLRo pmLRo cdLRo ctLRo kVLRo : Value} {odLRo anLRo : Option Addr} {slLRo : Array (Option Value)}
    {fLPr : Addr} {ocLPr dcLPr pmLPr cdLPr ctLPr kVLPr : Value} {odLPr anLPr : Option Addr} {slLPr : Array (Option Value)}
    {fDrw : Addr} {ocDrw dcDrw pmDrw cdDrw ctDrw kVDrw : Value} {odDrw anDrw : Option Addr} {slDrw : Array (Option Value)}
    {fRf : Addr} {ocRf dcRf pmRf cdRf ctRf kVRf : Value} {odRf anRf : Option Addr} {slRf : Array (Option Value)}
    {fL : Addr} {ocL dcL pmL cdL ctL kVL : Value} {odL anL : Option Addr} {slL : Array (Option Value)}
    {ocIS dcIS pmIS cdIS ctIS kVIS : Value} {odIS anIS : Option Addr} {slIS : Array (Option Value)}
    {ocISk dcISk pmISk cdISk ctISk kVISk : Value} {odISk anISk : Option Addr} {slISk : Array (Option Value)}
    {ocIN dcIN pmIN cdIN ctIN kVIN : Value} {odIN anIN : Option Addr} {slIN : Array (Option Value)}
    {fRI : Addr}
    {ocRI dcRI pmRI cdRI ctRI kVRI : Value} {odRI anRI : Option Addr} {slRI : Array (Option Value)}
    {fAdd : Addr}
    {ocAdd dcAdd pmAdd cdAdd ctAdd kVAdd : Value} {odAdd anAdd : Option Addr} {slAdd : Array (Option Value)}
    {fRadd : Addr}
    {ocRadd dcRadd pmRadd cdRadd ctRadd kVRadd : Value} {odRadd anRadd : Option Addr} {slRadd : Array (Option Value)}
    {fSt : Addr}
    {ocSt dcSt pmSt cdSt ctSt kVSt : Value} {odSt anSt : Option Addr} {slSt : Array (Option Value)}
    {fPr kdD : Addr} {ocPr dcPr pmPr cdPr ctPr : Value} {odPr anPr : Option Addr} {slPr : Array (Option Value)} {tkW tkP : Tok}
    (aI : nsIn K mainGlobals "InvalidStep" = some (some (.ref cI)))
    (xI : K.lookup cI = some (excClassObj nmI qI cI NI bsI [.ref cD, .type "Exception", .type "BaseException", .type "object"] true snI subI abI colI ddI m0I m1I m2I m3I m5I "Exception.__new__"))
    (saI : findIn K (.ref cI) "__setattr__" = some (some (.builtin "object.__setattr__")))
    (gaI : findIn K (.ref cI) "__getattribute__" = some (some (.builtin "BaseException.__getattribute__")))
    (ggI : findIn K (.ref cI) "__getattr__" = some none)
    (nI : findIn K (.ref cI) "index" = some none)
    (iI : findIn K (.ref cI) "__init__" = some (some (.ref fI)))
    (tI : typeIn K (.ref fI) = some (.type "function"))
    (kCI : keepIn K (.ref cI) = true)
    (eCI : subIn K (.ref cI) (.type "BaseException") = some true)
    (tCI : typeIn K (.ref cI) = some (.type "type"))
    (hCI : hasDictIn K cI = true)
    (haI : findIn K (.ref cI) "__class__" = some (some (.builtin "object.__class__")))
    (hmI : mroIn K cI (.type "object") = some true)
    (aS : nsIn K mainGlobals "InvalidStock" = some (some (.ref cS)))
    (xS : K.lookup cS = some (excClassObj nmS qS cS NS bsS [.ref cD, .type "Exception", .type "BaseException", .type "object"] true snS subS abS colS ddS m0S m1S m2S m3S m5S "Exception.__new__"))
    (saS : findIn K (.ref cS) "__setattr__" = some (some (.builtin "object.__setattr__")))
    (gaS : findIn K (.ref cS) "__getattribute__" = some (some (.builtin "BaseException.__getattribute__")))
    (ggS : findIn K (.ref cS) "__getattr__" = some none)
    (nS : findIn K (.ref cS) "value" = some none)
    (iS : findIn K (.ref cS) "__init__" = some (some (.ref fS)))
    (tS : typeIn K (.ref fS) = some (.type "function"))
    (kCS : keepIn K (.ref cS) = true)
    (eCS : subIn K (.ref cS) (.type "BaseException") = some true)
    (tCS : typeIn K (.ref cS) = some (.type "type"))
    (hCS : hasDictIn K cS = true)
    (haS : findIn K (.ref cS) "__class__" = some (some (.builtin "object.__class__")))
    (hmS : mroIn K cS (.type "object") = some true)
    (aN : nsIn K mainGlobals "InvalidNumber" = some (some (.ref cN)))
    (xN : K.lookup cN = some (excClassObj nmN qN cN NN bsN [.type "ValueError", .type "Exception", .type "BaseException", .type "object"] true snN subN abN colN ddN m0N m1N m2N m3N m5N "ValueError.__new__"))
    (saN : findIn K (.ref cN) "__setattr__" = some (some (.builtin "object.__setattr__")))
    (gaN : findIn K (.ref cN) "__getattribute__" = some (some (.builtin "BaseException.__getattribute__")))
    (ggN : findIn K (.ref cN) "__getattr__" = some none)
    (nN : findIn K (.ref cN) "value" = some none)
    (iN : findIn K (.ref cN) "__init__" = some (some (.ref fN)))
    (tN : typeIn K (.ref fN) = some (.type "function"))
    (kCN : keepIn K (.ref cN) = true)
    (eCN : subIn K (.ref cN) (.type "BaseException") = some true)
    (tCN : typeIn K (.ref cN) = some (.type "type"))
    (hCN : hasDictIn K cN = true)
    (haN : findIn K (.ref cN) "__class__" = some (some (.builtin "object.__class__")))
    (hmN : mroIn K cN (.type "object") = some true)
    (nsS : subIn K (.ref cS) (.type "StopIteration") = some false)
    (nsN : subIn K (.ref cN) (.type "StopIteration") = some false)
    (hn : specialIn K (.builtin "object.__class__") "__get__" = some (some (.builtin "getset_descriptor.__get__")))
    (ht : takesIn K (.builtin "object.__class__") = some true)
    (aR : nsIn K mainGlobals "Row" = some (some (.ref cR)))
    (pgR : plainGet K cR Str.empty = true)
    (hdR : hasDictIn K cR = true)
    (poR : plainOver K cR = true)
    (saR : findIn K (.ref cR) "__setattr__" = some (some (.builtin "object.__setattr__")))
    (nSR : findIn K (.ref cR) "_steps" = some none)
    (nHR : findIn K (.ref cR) "_held" = some none)
    (mkR : makesIn K cR = true)
    (kCR : keepIn K (.ref cR) = true)
    (sfR : selfFirst K cR = true)
    (haR : findIn K (.ref cR) "__class__" = some (some (.builtin "object.__class__")))
    (hmR : mroIn K cR (.type "object") = some true)
    (kb : kitB K cR cS cN = true)
    (fo_0 : findIn K (.type "NoneType") "__add__" = some fo0)
    (ro_0 : findIn K (.type "NoneType") "__radd__" = some ro0)
    (su0 : subIn K (.type "NoneType") (.ref cR) = some false)
    (fo_1 : findIn K (.type "bool") "__add__" = some fo1)
    (ro_1 : findIn K (.type "bool") "__radd__" = some ro1)
    (su1 : subIn K (.type "bool") (.ref cR) = some false)
    (fo_2 : findIn K (.type "int") "__add__" = some fo2)
    (ro_2 : findIn K (.type "int") "__radd__" = some ro2)
    (su2 : subIn K (.type "int") (.ref cR) = some false)
    (fo_3 : findIn K (.type "list") "__add__" = some fo3)
    (ro_3 : findIn K (.type "list") "__radd__" = some ro3)
    (su3 : subIn K (.type "list") (.ref cR) = some false)
    (fo_4 : findIn K (.type "str") "__add__" = some fo4)
    (ro_4 : findIn K (.type "str") "__radd__" = some ro4)
    (su4 : subIn K (.type "str") (.ref cR) = some false)
    (fo_5 : findIn K (.type "dict") "__add__" = some fo5)
    (ro_5 : findIn K (.type "dict") "__radd__" = some ro5)
    (su5 : subIn K (.type "dict") (.ref cR) = some false)
    (fo_6 : findIn K (.type "tuple") "__add__" = some fo6)
    (ro_6 : findIn K (.type "tuple") "__radd__" = some ro6)
    (su6 : subIn K (.type "tuple") (.ref cR) = some false)
    (rtup : ((fo6.isSome && !isSeqSlot fo6) || (ro6.isSome && !isSeqSlot ro6)) = false)
    (gWW : nsIn K mainGlobals "WAIT_WORDS" = some (some (.ref aW)))
    (lWW : K.lookup aW = some ⟨.type "tuple", odW, .seq #[.str "halt" tW0, .str "settle" tW1, .str "drain" tW2] nWw, slW⟩)
    (gK : nsIn K mainGlobals "STEP_KINDS" = some (some (.ref dK)))
    (lK : K.lookup dK = some ⟨.type "dict", none, .dict esK nK, #[]⟩)
    (hK : PySem.W.KeysLit w.params esK.toList)
    (lowK : (dK == sysModules) = false)
    (w0 : nsIn K dK "cancel" = some (some u0))
    (w1 : nsIn K dK "bar" = some (some u1))
    (w2 : nsIn K dK "halt" = some (some u2))
    (w3 : nsIn K dK "settle" = some (some u3))
    (w4 : nsIn K dK "close" = some (some u4))
    (w5 : nsIn K dK "drain" = some (some u5))
    (w6 : nsIn K dK "set" = some (some u6))
    (w7 : nsIn K dK "clear" = some (some u7))
    (w8 : nsIn K dK "take" = some (some u8))
    (w9 : nsIn K dK "give" = some (some u9))
    (gML : nsIn K mainGlobals "MOST_LETTERS" = some (some (.int 8 tkL)))
    (gMS : nsIn K mainGlobals "MOST_STEPS" = some (some (.int 8 tkS)))
    (gMI : nsIn K mainGlobals "MOST_IN_STOCK" = some (some (.int 6 tkM)))
    (gMP : nsIn K mainGlobals "MOST_PRICE" = some (some (.int 1000 tkQ)))
    (aName : nsIn K mainGlobals "is_name" = some (some (.ref fName)))
    (aStep : nsIn K mainGlobals "is_step" = some (some (.ref fStep)))
    (aBr : nsIn K mainGlobals "branches" = some (some (.ref fBr)))
    (aBeh : nsIn K mainGlobals "locks_behind" = some (some (.ref fBeh)))
    (aHeld : nsIn K mainGlobals "held_along" = some (some (.ref fHeld)))
    (aWr : nsIn K mainGlobals "is_wrong" = some (some (.ref fWr)))
    (aWL : nsIn K mainGlobals "wrong_locks" = some (some (.ref fWL)))
    (aCh : nsIn K mainGlobals "check_steps" = some (some (.ref fCh)))
    (aIn : nsIn K mainGlobals "steps_in" = some (some (.ref fIn)))
    (aIx : nsIn K mainGlobals "is_index" = some (some (.ref fIx)))
    (aGR : nsIn K mainGlobals "gives_right" = some (some (.ref fGR)))
    (aCNm : nsIn K mainGlobals "check_number" = some (some (.ref fCNm)))
    (aCPr : nsIn K mainGlobals "check_prices" = some (some (.ref fCPr)))
    (aCLg : nsIn K mainGlobals "check_longest" = some (some (.ref fCLg)))
    (aISt : nsIn K mainGlobals "is_stock" = some (some (.ref fISt)))
    (aCSt : nsIn K mainGlobals "check_stock" = some (some (.ref fCSt)))
    (aLC : nsIn K mainGlobals "longer_choices" = some (some (.ref fLC)))
    (aRO : nsIn K mainGlobals "rows_of" = some (some (.ref fRO)))
    (aCo : nsIn K mainGlobals "cost_of" = some (some (.ref fCo)))
    (aNum : nsIn K mainGlobals "_law_numbers" = some (some (.ref fNum)))
    (aPool : nsIn K mainGlobals "_law_pool" = some (some (.ref fPool)))
    (aDraw : nsIn K mainGlobals "_law_draw" = some (some (.ref fDraw)))
    (aPick : nsIn K mainGlobals "_law_pick" = some (some (.ref fPick)))
    (aBal : nsIn K mainGlobals "_law_balanced" = some (some (.ref fBal)))
    (aLst : nsIn K mainGlobals "_law_listed" = some (some (.ref fLst)))
    (aLRo : nsIn K mainGlobals "_law_rows" = some (some (.ref fLRo)))
    (aLPr : nsIn K mainGlobals "_law_price" = some (some (.ref fLPr)))
    (aDrw : nsIn K mainGlobals "_law_drawn_stock" = some (some (.ref fDrw)))
    (aRf : nsIn K mainGlobals "_law_refused" = some (some (.ref fRf)))
    (aL : nsIn K mainGlobals "law" = some (some (.ref fL)))
    (aRI : findIn K (.ref cR) "__init__" = some (some (.ref fRI)))
    (iRI : isFn K (.ref fRI) = true)
    (aAdd : findIn K (.ref cR) "__add__" = some (some (.ref fAdd)))
    (iAdd : isFn K (.ref fAdd) = true)
    (aRadd : findIn K (.ref cR) "__radd__" = some (some (.ref fRadd)))
    (iRadd : isFn K (.ref fRadd) = true)
    (aSt : findIn K (.ref cR) "steps" = some (some (.ref fSt)))
    (iSt : isFn K (.ref fSt) = true)
    (lName : K.lookup fName = some ⟨ocName, odName, .func (PySem.W.fnOf "is_name" "is_name" (defArgs sName) (defBody sName) (defScope sName) .none kVName dcName pmName anName cdName ctName), slName⟩)
    (ccName : codeIn K cdName "is_name" = true)
    (kfName : keepIn K (.ref fName) = true)
    (lStep : K.lookup fStep = some ⟨ocStep, odStep, .func (PySem.W.fnOf "is_step" "is_step" (defArgs sStep) (defBody sStep) (defScope sStep) .none kVStep dcStep pmStep anStep cdStep ctStep), slStep⟩)
    (ccStep : codeIn K cdStep "is_step" = true)
    (kfStep : keepIn K (.ref fStep) = true)
    (lBr : K.lookup fBr = some ⟨ocBr, odBr, .func (PySem.W.fnOf "branches" "branches" (defArgs sBr) (defBody sBr) (defScope sBr) .none kVBr dcBr pmBr anBr cdBr ctBr), slBr⟩)
    (ccBr : codeIn K cdBr "branches" = true)
    (kfBr : keepIn K (.ref fBr) = true)
    (lBeh : K.lookup fBeh = some ⟨ocBeh, odBeh, .func (PySem.W.fnOf "locks_behind" "locks_behind" (defArgs sBeh) (defBody sBeh) (defScope sBeh) .none kVBeh dcBeh pmBeh anBeh cdBeh ctBeh), slBeh⟩)
    (ccBeh : codeIn K cdBeh "locks_behind" = true)
    (kfBeh : keepIn K (.ref fBeh) = true)
    (lHeld : K.lookup fHeld = some ⟨ocHeld, odHeld, .func (PySem.W.fnOf "held_along" "held_along" (defArgs sHeld) (defBody sHeld) (defScope sHeld) .none kVHeld dcHeld pmHeld anHeld cdHeld ctHeld), slHeld⟩)
    (ccHeld : codeIn K cdHeld "held_along" = true)
    (kfHeld : keepIn K (.ref fHeld) = true)
    (lWr : K.lookup fWr = some ⟨ocWr, odWr, .func (PySem.W.fnOf "is_wrong" "is_wrong" (defArgs sWr) (defBody sWr) (defScope sWr) .none kVWr dcWr pmWr anWr cdWr ctWr), slWr⟩)
    (ccWr : codeIn K cdWr "is_wrong" = true)
    (kfWr : keepIn K (.ref fWr) = true)
    (lWL : K.lookup fWL = some ⟨ocWL, odWL, .func (PySem.W.fnOf "wrong_locks" "wrong_locks" (defArgs sWL) (defBody sWL) (defScope sWL) .none kVWL dcWL pmWL anWL cdWL ctWL), slWL⟩)
    (ccWL : codeIn K cdWL "wrong_locks" = true)
    (kfWL : keepIn K (.ref fWL) = true)
    (lCh : K.lookup fCh = some ⟨ocCh, odCh, .func (PySem.W.fnOf "check_steps" "check_steps" (defArgs sCh) (defBody sCh) (defScope sCh) .none kVCh dcCh pmCh anCh cdCh ctCh), slCh⟩)
    (ccCh : codeIn K cdCh "check_steps" = true)
    (kfCh : keepIn K (.ref fCh) = true)
    (lIn : K.lookup fIn = some ⟨ocIn, odIn, .func (PySem.W.fnOf "steps_in" "steps_in" (defArgs sIn) (defBody sIn) (defScope sIn) .none kVIn dcIn pmIn anIn cdIn ctIn), slIn⟩)
    (ccIn : codeIn K cdIn "steps_in" = true)
    (kfIn : keepIn K (.ref fIn) = true)
    (lIx : K.lookup fIx = some ⟨ocIx, odIx, .func (PySem.W.fnOf "is_index" "is_index" (defArgs sIxF) (defBody sIxF) (defScope sIxF) .none kVIx dcIx pmIx anIx cdIx ctIx), slIx⟩)
    (ccIx : codeIn K cdIx "is_index" = true)
    (kfIx : keepIn K (.ref fIx) = true)
    (lGR : K.lookup fGR = some ⟨ocGR, odGR, .func (PySem.W.fnOf "gives_right" "gives_right" (defArgs sGR) (defBody sGR) (defScope sGR) .none kVGR dcGR pmGR anGR cdGR ctGR), slGR⟩)
    (ccGR : codeIn K cdGR "gives_right" = true)
    (kfGR : keepIn K (.ref fGR) = true)
    (lCNm : K.lookup fCNm = some ⟨ocCNm, odCNm, .func (PySem.W.fnOf "check_number" "check_number" (defArgs sCNm) (defBody sCNm) (defScope sCNm) .none kVCNm dcCNm pmCNm anCNm cdCNm ctCNm), slCNm⟩)
    (ccCNm : codeIn K cdCNm "check_number" = true)
    (kfCNm : keepIn K (.ref fCNm) = true)
    (lCPr : K.lookup fCPr = some ⟨ocCPr, odCPr, .func (PySem.W.fnOf "check_prices" "check_prices" (defArgs sCPr) (defBody sCPr) (defScope sCPr) .none kVCPr dcCPr pmCPr anCPr cdCPr ctCPr), slCPr⟩)
    (ccCPr : codeIn K cdCPr "check_prices" = true)
    (kfCPr : keepIn K (.ref fCPr) = true)
    (lCLg : K.lookup fCLg = some ⟨ocCLg, odCLg, .func (PySem.W.fnOf "check_longest" "check_longest" (defArgs sCLg) (defBody sCLg) (defScope sCLg) .none kVCLg dcCLg pmCLg anCLg cdCLg ctCLg), slCLg⟩)
    (ccCLg : codeIn K cdCLg "check_longest" = true)
    (kfCLg : keepIn K (.ref fCLg) = true)
    (lISt : K.lookup fISt = some ⟨ocISt, odISt, .func (PySem.W.fnOf "is_stock" "is_stock" (defArgs sISt) (defBody sISt) (defScope sISt) .none kVISt dcISt pmISt anISt cdISt ctISt), slISt⟩)
    (ccISt : codeIn K cdISt "is_stock" = true)
    (kfISt : keepIn K (.ref fISt) = true)
    (lCSt : K.lookup fCSt = some ⟨ocCSt, odCSt, .func (PySem.W.fnOf "check_stock" "check_stock" (defArgs sCSt) (defBody sCSt) (defScope sCSt) .none kVCSt dcCSt pmCSt anCSt cdCSt ctCSt), slCSt⟩)
    (ccCSt : codeIn K cdCSt "check_stock" = true)
    (kfCSt : keepIn K (.ref fCSt) = true)
    (lLC : K.lookup fLC = some ⟨ocLC, odLC, .func (PySem.W.fnOf "longer_choices" "longer_choices" (defArgs sLC) (defBody sLC) (defScope sLC) .none kVLC dcLC pmLC anLC cdLC ctLC), slLC⟩)
    (ccLC : codeIn K cdLC "longer_choices" = true)
    (kfLC : keepIn K (.ref fLC) = true)
    (lRO : K.lookup fRO = some ⟨ocRO, odRO, .func (PySem.W.fnOf "rows_of" "rows_of" (defArgs sRO) (defBody sRO) (defScope sRO) .none kVRO dcRO pmRO anRO cdRO ctRO), slRO⟩)
    (ccRO : codeIn K cdRO "rows_of" = true)
    (kfRO : keepIn K (.ref fRO) = true)
    (lCo : K.lookup fCo = some ⟨ocCo, odCo, .func (PySem.W.fnOf "cost_of" "cost_of" (defArgs sCo) (defBody sCo) (defScope sCo) .none kVCo dcCo pmCo anCo cdCo ctCo), slCo⟩)
    (ccCo : codeIn K cdCo "cost_of" = true)
    (kfCo : keepIn K (.ref fCo) = true)
    (lNum : K.lookup fNum = some ⟨ocNum, odNum, .func (PySem.W.fnOf "_law_numbers" "_law_numbers" (defArgs sNum) (defBody sNum) (defScope sNum) .none kVNum dcNum pmNum anNum cdNum ctNum), slNum⟩)
    (ccNum : codeIn K cdNum "_law_numbers" = true)
    (kfNum : keepIn K (.ref fNum) = true)
    (lPool : K.lookup fPool = some ⟨ocPool, odPool, .func (PySem.W.fnOf "_law_pool" "_law_pool" (defArgs sPool) (defBody sPool) (defScope sPool) .none kVPool dcPool pmPool anPool cdPool ctPool), slPool⟩)
    (ccPool : codeIn K cdPool "_law_pool" = true)
    (kfPool : keepIn K (.ref fPool) = true)
    (lDraw : K.lookup fDraw = some ⟨ocDraw, odDraw, .func (PySem.W.fnOf "_law_draw" "_law_draw" (defArgs sDraw) (defBody sDraw) (defScope sDraw) .none kVDraw dcDraw pmDraw anDraw cdDraw ctDraw), slDraw⟩)
    (ccDraw : codeIn K cdDraw "_law_draw" = true)
    (kfDraw : keepIn K (.ref fDraw) = true)
    (lPick : K.lookup fPick = some ⟨ocPick, odPick, .func (PySem.W.fnOf "_law_pick" "_law_pick" (defArgs sPick) (defBody sPick) (defScope sPick) .none kVPick dcPick pmPick anPick cdPick ctPick), slPick⟩)
    (ccPick : codeIn K cdPick "_law_pick" = true)
    (kfPick : keepIn K (.ref fPick) = true)
    (lBal : K.lookup fBal = some ⟨ocBal, odBal, .func (PySem.W.fnOf "_law_balanced" "_law_balanced" (defArgs sBal) (defBody sBal) (defScope sBal) .none kVBal dcBal pmBal anBal cdBal ctBal), slBal⟩)
    (ccBal : codeIn K cdBal "_law_balanced" = true)
    (kfBal : keepIn K (.ref fBal) = true)
    (lLst : K.lookup fLst = some ⟨ocLst, odLst, .func (PySem.W.fnOf "_law_listed" "_law_listed" (defArgs sLst) (defBody sLst) (defScope sLst) .none kVLst dcLst pmLst anLst cdLst ctLst), slLst⟩)
    (ccLst : codeIn K cdLst "_law_listed" = true)
    (kfLst : keepIn K (.ref fLst) = true)
    (lLRo : K.lookup fLRo = some ⟨ocLRo, odLRo, .func (PySem.W.fnOf "_law_rows" "_law_rows" (defArgs sLRo) (defBody sLRo) (defScope sLRo) .none kVLRo dcLRo pmLRo anLRo cdLRo ctLRo), slLRo⟩)
    (ccLRo : codeIn K cdLRo "_law_rows" = true)
    (kfLRo : keepIn K (.ref fLRo) = true)
    (lLPr : K.lookup fLPr = some ⟨ocLPr, odLPr, .func (PySem.W.fnOf "_law_price" "_law_price" (defArgs sLPr) (defBody sLPr) (defScope sLPr) .none kVLPr dcLPr pmLPr anLPr cdLPr ctLPr), slLPr⟩)
    (ccLPr : codeIn K cdLPr "_law_price" = true)
    (kfLPr : keepIn K (.ref fLPr) = true)
    (lDrw : K.lookup fDrw = some ⟨ocDrw, odDrw, .func (PySem.W.fnOf "_law_drawn_stock" "_law_drawn_stock" (defArgs sDr) (defBody sDr) (defScope sDr) .none kVDrw dcDrw pmDrw anDrw cdDrw ctDrw), slDrw⟩)
    (ccDrw : codeIn K cdDrw "_law_drawn_stock" = true)
    (kfDrw : keepIn K (.ref fDrw) = true)
    (lRf : K.lookup fRf = some ⟨ocRf, odRf, .func (PySem.W.fnOf "_law_refused" "_law_refused" (defArgs sRf) (defBody sRf) (defScope sRf) .none kVRf dcRf pmRf anRf cdRf ctRf), slRf⟩)
    (ccRf : codeIn K cdRf "_law_refused" = true)
    (kfRf : keepIn K (.ref fRf) = true)
    (lL : K.lookup fL = some ⟨ocL, odL, .func (PySem.W.fnOf "law" "law" (defArgs sLaw) (defBody sLaw) (defScope sLaw) .none kVL dcL pmL anL cdL ctL), slL⟩)
    (ccL : codeIn K cdL "law" = true)
    (kfL : keepIn K (.ref fL) = true)
    (lIS : K.lookup fI = some ⟨ocIS, odIS, .func (PySem.W.fnOf "__init__" "InvalidStep.__init__" (defArgs sIS) (defBody sIS) (defScope sIS) .none kVIS dcIS pmIS anIS cdIS ctIS), slIS⟩)
    (ccIS : codeIn K cdIS "InvalidStep.__init__" = true)
    (kfIS : keepIn K (.ref fI) = true)
    (lISk : K.lookup fS = some ⟨ocISk, odISk, .func (PySem.W.fnOf "__init__" "InvalidStock.__init__" (defArgs sIStk) (defBody sIStk) (defScope sIStk) .none kVISk dcISk pmISk anISk cdISk ctISk), slISk⟩)
    (ccISk : codeIn K cdISk "InvalidStock.__init__" = true)
    (kfISk : keepIn K (.ref fS) = true)
    (lIN : K.lookup fN = some ⟨ocIN, odIN, .func (PySem.W.fnOf "__init__" "InvalidNumber.__init__" (defArgs sINum) (defBody sINum) (defScope sINum) .none kVIN dcIN pmIN anIN cdIN ctIN), slIN⟩)
    (ccIN : codeIn K cdIN "InvalidNumber.__init__" = true)
    (kfIN : keepIn K (.ref fN) = true)
    (lRI : K.lookup fRI = some ⟨ocRI, odRI, .func (PySem.W.fnOf "__init__" "Row.__init__" (defArgs sRI) (defBody sRI) (defScope sRI) .none kVRI dcRI pmRI anRI cdRI ctRI), slRI⟩)
    (ccRI : codeIn K cdRI "Row.__init__" = true)
    (kfRI : keepIn K (.ref fRI) = true)
    (lAdd : K.lookup fAdd = some ⟨ocAdd, odAdd, .func (PySem.W.fnOf "__add__" "Row.__add__" (defArgs sAdd) (defBody sAdd) (defScope sAdd) .none kVAdd dcAdd pmAdd anAdd cdAdd ctAdd), slAdd⟩)
    (ccAdd : codeIn K cdAdd "Row.__add__" = true)
    (kfAdd : keepIn K (.ref fAdd) = true)
    (lRadd : K.lookup fRadd = some ⟨ocRadd, odRadd, .func (PySem.W.fnOf "__radd__" "Row.__radd__" (defArgs sRadd) (defBody sRadd) (defScope sRadd) .none kVRadd dcRadd pmRadd anRadd cdRadd ctRadd), slRadd⟩)
    (ccRadd : codeIn K cdRadd "Row.__radd__" = true)
    (kfRadd : keepIn K (.ref fRadd) = true)
    (lSt : K.lookup fSt = some ⟨ocSt, odSt, .func (PySem.W.fnOf "steps" "Row.steps" (defArgs sSt) (defBody sSt) (defScope sSt) .none kVSt dcSt pmSt anSt cdSt ctSt), slSt⟩)
    (ccSt : codeIn K cdSt "Row.steps" = true)
    (kfSt : keepIn K (.ref fSt) = true)
    (aPr : nsIn K mainGlobals "price" = some (some (.ref fPr)))
    (lPr : K.lookup fPr = some ⟨ocPr, odPr, .func (PySem.W.fnOf "price" "price" (defArgs sPr) (defBody sPr) (defScope sPr) .none (.ref kdD) dcPr pmPr anPr cdPr ctPr), slPr⟩)
    (ccPr : codeIn K cdPr "price" = true)
    (kfPr : keepIn K (.ref fPr) = true)
    (kdW : nsIn K kdD "wait" = some (some (.int 3 tkW)))
    (kdP : nsIn K kdD "plain" = some (some (.int 1 tkP)))
    (z_isinstance : nsIn K mainGlobals "isinstance" = some none)
    (z_str : nsIn K mainGlobals "str" = some none)
    (z_len : nsIn K mainGlobals "len" = some none)
    (z_all : nsIn K mainGlobals "all" = some none)
    (z_tuple : nsIn K mainGlobals "tuple" = some none)
    (z_enumerate : nsIn K mainGlobals "enumerate" = some none)
    (z_list : nsIn K mainGlobals "list" = some none)
    (z_max : nsIn K mainGlobals "max" = some none)
    (z_range : nsIn K mainGlobals "range" = some none)
    (z_int : nsIn K mainGlobals "int" = some none)
    (z_bool : nsIn K mainGlobals "bool" = some none)
    (z_set : nsIn K mainGlobals "set" = some none)
    (z_sum : nsIn K mainGlobals "sum" = some none)
    (z_min : nsIn K mainGlobals "min" = some none)
    (z_repr : nsIn K mainGlobals "repr" = some none)
    : ∃ fd : FuncData, (∀ (s : Shared) (v : Value), BindsTo s fd ⟨[v], []⟩ [("_law_script", v)]) ∧ ∀ base : Heap, K.In base → base.Ns mainGlobals mg → FnOkG P w K mg base CX0 10 fa fd ["_law_script"] (spLaw K) := by
  have e := hfa.symm.trans (PySem.W.mg_of X G aL)
  cases e
  have FName := fun_mk (st := sName) lName ccName kfName
  have FStep := fun_mk (st := sStep) lStep ccStep kfStep
  have FBr := fun_mk (st := sBr) lBr ccBr kfBr
  have FBeh := fun_mk (st := sBeh) lBeh ccBeh kfBeh
  have FHeld := fun_mk (st := sHeld) lHeld ccHeld kfHeld
  have FWr := fun_mk (st := sWr) lWr ccWr kfWr
  have FWL := fun_mk (st := sWL) lWL ccWL kfWL
  have FCh := fun_mk (st := sCh) lCh ccCh kfCh
  have FIn := fun_mk (st := sIn) lIn ccIn kfIn
  have FIx := fun_mk (st := sIxF) lIx ccIx kfIx
  have FGR := fun_mk (st := sGR) lGR ccGR kfGR
  have FCNm := fun_mk (st := sCNm) lCNm ccCNm kfCNm
  have FCPr := fun_mk (st := sCPr) lCPr ccCPr kfCPr
  have FCLg := fun_mk (st := sCLg) lCLg ccCLg kfCLg
  have FISt := fun_mk (st := sISt) lISt ccISt kfISt
  have FCSt := fun_mk (st := sCSt) lCSt ccCSt kfCSt
  have FLC := fun_mk (st := sLC) lLC ccLC kfLC
  have FRO := fun_mk (st := sRO) lRO ccRO kfRO
  have FCo := fun_mk (st := sCo) lCo ccCo kfCo
  have FNum := fun_mk (st := sNum) lNum ccNum kfNum
  have FPool := fun_mk (st := sPool) lPool ccPool kfPool
  have FDraw := fun_mk (st := sDraw) lDraw ccDraw kfDraw
  have FPick := fun_mk (st := sPick) lPick ccPick kfPick
  have FBal := fun_mk (st := sBal) lBal ccBal kfBal
  have FLst := fun_mk (st := sLst) lLst ccLst kfLst
  have FLRo := fun_mk (st := sLRo) lLRo ccLRo kfLRo
  have FLPr := fun_mk (st := sLPr) lLPr ccLPr kfLPr
  have FDrw := fun_mk (st := sDr) lDrw ccDrw kfDrw
  have FRf := fun_mk (st := sRf) lRf ccRf kfRf
  have FL := fun_mk (st := sLaw) lL ccL kfL
  have FIS := fun_mk (st := sIS) lIS ccIS kfIS
  have FISk := fun_mk (st := sIStk) lISk ccISk kfISk
  have FIN := fun_mk (st := sINum) lIN ccIN kfIN
  have FRI := fun_mk (st := sRI) lRI ccRI kfRI
  have FAdd := fun_mk (st := sAdd) lAdd ccAdd kfAdd
  have FRadd := fun_mk (st := sRadd) lRadd ccRadd kfRadd
  have FSt := fun_mk (st := sSt) lSt ccSt kfSt
  have z : ∀ {x : Str}, nsIn K mainGlobals x = some none → mg x = none := fun e => PySem.W.mg_none_of X G e
  have CName : Called K mg "is_name" ["value"] fName _ := ⟨PySem.W.mg_of X G aName, kfName, FName.binds (ps := ["value"]) fun _ _ _ _ _ _ us hl => match us, hl with | [_], _ => rfl⟩
  have CStep : Called K mg "is_step" ["value"] fStep _ := ⟨PySem.W.mg_of X G aStep, kfStep, FStep.binds (ps := ["value"]) fun _ _ _ _ _ _ us hl => match us, hl with | [_], _ => rfl⟩
  have CBr : Called K mg "branches" ["item"] fBr _ := ⟨PySem.W.mg_of X G aBr, kfBr, FBr.binds (ps := ["item"]) fun _ _ _ _ _ _ us hl => match us, hl with | [_], _ => rfl⟩
  have CBeh : Called K mg "locks_behind" ["item", "held"] fBeh _ := ⟨PySem.W.mg_of X G aBeh, kfBeh, FBeh.binds (ps := ["item", "held"]) fun _ _ _ _ _ _ us hl => match us, hl with | [_, _], _ => rfl⟩
  have CHeld : Called K mg "held_along" ["items", "around"] fHeld _ := ⟨PySem.W.mg_of X G aHeld, kfHeld, FHeld.binds (ps := ["items", "around"]) fun _ _ _ _ _ _ us hl => match us, hl with | [_, _], _ => rfl⟩
  have CWr : Called K mg "is_wrong" ["item", "later", "around", "taken"] fWr _ := ⟨PySem.W.mg_of X G aWr, kfWr, FWr.binds (ps := ["item", "later", "around", "taken"]) fun _ _ _ _ _ _ us hl => match us, hl with | [_, _, _, _], _ => rfl⟩
  have CWL : Called K mg "wrong_locks" ["items", "around"] fWL _ := ⟨PySem.W.mg_of X G aWL, kfWL, FWL.binds (ps := ["items", "around"]) fun _ _ _ _ _ _ us hl => match us, hl with | [_, _], _ => rfl⟩
  have CCh : Called K mg "check_steps" ["steps"] fCh _ := ⟨PySem.W.mg_of X G aCh, kfCh, FCh.binds (ps := ["steps"]) fun _ _ _ _ _ _ us hl => match us, hl with | [_], _ => rfl⟩
  have CIn : Called K mg "steps_in" ["value"] fIn _ := ⟨PySem.W.mg_of X G aIn, kfIn, FIn.binds (ps := ["value"]) fun _ _ _ _ _ _ us hl => match us, hl with | [_], _ => rfl⟩
  have CIx : Called K mg "is_index" ["value", "many"] fIx _ := ⟨PySem.W.mg_of X G aIx, kfIx, FIx.binds (ps := ["value", "many"]) fun _ _ _ _ _ _ us hl => match us, hl with | [_, _], _ => rfl⟩
  have CGR : Called K mg "gives_right" ["steps"] fGR _ := ⟨PySem.W.mg_of X G aGR, kfGR, FGR.binds (ps := ["steps"]) fun _ _ _ _ _ _ us hl => match us, hl with | [_], _ => rfl⟩
  have CCNm : Called K mg "check_number" ["value", "most"] fCNm _ := ⟨PySem.W.mg_of X G aCNm, kfCNm, FCNm.binds (ps := ["value", "most"]) fun _ _ _ _ _ _ us hl => match us, hl with | [_, _], _ => rfl⟩
  have CCPr : Called K mg "check_prices" ["wait", "plain"] fCPr _ := ⟨PySem.W.mg_of X G aCPr, kfCPr, FCPr.binds (ps := ["wait", "plain"]) fun _ _ _ _ _ _ us hl => match us, hl with | [_, _], _ => rfl⟩
  have CCLg : Called K mg "check_longest" ["value"] fCLg _ := ⟨PySem.W.mg_of X G aCLg, kfCLg, FCLg.binds (ps := ["value"]) fun _ _ _ _ _ _ us hl => match us, hl with | [_], _ => rfl⟩
  have CISt : Called K mg "is_stock" ["value"] fISt _ := ⟨PySem.W.mg_of X G aISt, kfISt, FISt.binds (ps := ["value"]) fun _ _ _ _ _ _ us hl => match us, hl with | [_], _ => rfl⟩
  have CCSt : Called K mg "check_stock" ["value"] fCSt _ := ⟨PySem.W.mg_of X G aCSt, kfCSt, FCSt.binds (ps := ["value"]) fun _ _ _ _ _ _ us hl => match us, hl with | [_], _ => rfl⟩
  have CLC : Called K mg "longer_choices" ["choices", "many"] fLC _ := ⟨PySem.W.mg_of X G aLC, kfLC, FLC.binds (ps := ["choices", "many"]) fun _ _ _ _ _ _ us hl => match us, hl with | [_, _], _ => rfl⟩
  have CRO : Called K mg "rows_of" ["stock", "longest"] fRO _ := ⟨PySem.W.mg_of X G aRO, kfRO, FRO.binds (ps := ["stock", "longest"]) fun _ _ _ _ _ _ us hl => match us, hl with | [_, _], _ => rfl⟩
  have CCo : Called K mg "cost_of" ["steps", "wait", "plain"] fCo _ := ⟨PySem.W.mg_of X G aCo, kfCo, FCo.binds (ps := ["steps", "wait", "plain"]) fun _ _ _ _ _ _ us hl => match us, hl with | [_, _, _], _ => rfl⟩
  have CNum : Called K mg "_law_numbers" ["_law_cell", "_law_salt", "_law_sizes"] fNum _ := ⟨PySem.W.mg_of X G aNum, kfNum, FNum.binds (ps := ["_law_cell", "_law_salt", "_law_sizes"]) fun _ _ _ _ _ _ us hl => match us, hl with | [_, _, _], _ => rfl⟩
  have CPool : Called K mg "_law_pool" ["_law_cell", "_law_salt", "_law_many"] fPool _ := ⟨PySem.W.mg_of X G aPool, kfPool, FPool.binds (ps := ["_law_cell", "_law_salt", "_law_many"]) fun _ _ _ _ _ _ us hl => match us, hl with | [_, _, _], _ => rfl⟩
  have CDraw : Called K mg "_law_draw" ["_law_pool_here", "_law_many"] fDraw _ := ⟨PySem.W.mg_of X G aDraw, kfDraw, FDraw.binds (ps := ["_law_pool_here", "_law_many"]) fun _ _ _ _ _ _ us hl => match us, hl with | [_, _], _ => rfl⟩
  have CPick : Called K mg "_law_pick" ["_law_pool_here", "_law_some"] fPick _ := ⟨PySem.W.mg_of X G aPick, kfPick, FPick.binds (ps := ["_law_pool_here", "_law_some"]) fun _ _ _ _ _ _ us hl => match us, hl with | [_, _], _ => rfl⟩
  have CBal : Called K mg "_law_balanced" ["_law_steps"] fBal _ := ⟨PySem.W.mg_of X G aBal, kfBal, FBal.binds (ps := ["_law_steps"]) fun _ _ _ _ _ _ us hl => match us, hl with | [_], _ => rfl⟩
  have CLst : Called K mg "_law_listed" ["_law_stock", "_law_longest"] fLst _ := ⟨PySem.W.mg_of X G aLst, kfLst, FLst.binds (ps := ["_law_stock", "_law_longest"]) fun _ _ _ _ _ _ us hl => match us, hl with | [_, _], _ => rfl⟩
  have CLRo : Called K mg "_law_rows" ["_law_stock", "_law_longest"] fLRo _ := ⟨PySem.W.mg_of X G aLRo, kfLRo, FLRo.binds (ps := ["_law_stock", "_law_longest"]) fun _ _ _ _ _ _ us hl => match us, hl with | [_, _], _ => rfl⟩
  have CLPr : Called K mg "_law_price" ["_law_row", "_law_one", "_law_other"] fLPr _ := ⟨PySem.W.mg_of X G aLPr, kfLPr, FLPr.binds (ps := ["_law_row", "_law_one", "_law_other"]) fun _ _ _ _ _ _ us hl => match us, hl with | [_, _, _], _ => rfl⟩
  have CDrw : Called K mg "_law_drawn_stock" ["_law_pool_here"] fDrw _ := ⟨PySem.W.mg_of X G aDrw, kfDrw, FDrw.binds (ps := ["_law_pool_here"]) fun _ _ _ _ _ _ us hl => match us, hl with | [_], _ => rfl⟩
  have CRf : Called K mg "_law_refused" ["_law_stock", "_law_row"] fRf _ := ⟨PySem.W.mg_of X G aRf, kfRf, FRf.binds (ps := ["_law_stock", "_law_row"]) fun _ _ _ _ _ _ us hl => match us, hl with | [_, _], _ => rfl⟩
  have bIS := FIS.binds (ps := ["self", "index"]) fun _ _ _ _ _ _ us hl => match us, hl with | [_, _], _ => rfl
  have bISk := FISk.binds (ps := ["self", "value"]) fun _ _ _ _ _ _ us hl => match us, hl with | [_, _], _ => rfl
  have bIN := FIN.binds (ps := ["self", "value"]) fun _ _ _ _ _ _ us hl => match us, hl with | [_, _], _ => rfl
  have bAdd := FAdd.binds (ps := ["self", "other"]) fun _ _ _ _ _ _ us hl => match us, hl with | [_, _], _ => rfl
  have bRadd := FRadd.binds (ps := ["self", "other"]) fun _ _ _ _ _ _ us hl => match us, hl with | [_, _], _ => rfl
  have bSt := FSt.binds (ps := ["self"]) fun _ _ _ _ _ _ us hl => match us, hl with | [_], _ => rfl
  have oI : OexG K cI fI := ⟨⟨_, _, _, _, PySem.F.excBase_Exception, PySem.F.store_Exception, _, _, _, _, _, _, _, _, _, _, _, _, _, _, _, xI, by rfl⟩, saI, gaI, ggI, eCI, tCI, kCI, hCI, iI, tI, haI, hn, ht, hmI⟩
  have oS : OexG K cS fS := ⟨⟨_, _, _, _, PySem.F.excBase_Exception, PySem.F.store_Exception, _, _, _, _, _, _, _, _, _, _, _, _, _, _, _, xS, by rfl⟩, saS, gaS, ggS, eCS, tCS, kCS, hCS, iS, tS, haS, hn, ht, hmS⟩
  have oN : OexG K cN fN := ⟨⟨_, _, _, _, PySem.F.excBase_ValueError, PySem.F.store_ValueError, _, _, _, _, _, _, _, _, _, _, _, _, _, _, _, xN, by rfl⟩, saN, gaN, ggN, eCN, tCN, kCN, hCN, iN, tN, haN, hn, ht, hmN⟩
  have hW : ∀ w ∈ W12, ∃ u, PySem.W.nsIn K dK w = some (some u) := fun w hw => by
    simp only [W12, List.mem_cons, List.mem_nil_iff, or_false] at hw
    rcases hw with rfl | rfl | rfl | rfl | rfl | rfl | rfl | rfl | rfl | rfl | rfl | rfl
    · exact ⟨_, w0⟩
    · exact ⟨_, w1⟩
    · exact ⟨_, w2⟩
    · exact ⟨_, w3⟩
    · exact ⟨_, w4⟩
    · exact ⟨_, w5⟩
    · exact ⟨_, w6⟩
    · exact ⟨_, w7⟩
    · exact ⟨_, w8⟩
    · exact ⟨_, w9⟩
    · exact ⟨_, w8⟩
    · exact ⟨_, w9⟩
  have DK : KDict K w dK esK nK := ⟨lK, hK, lowK⟩
  obtain ⟨exS, exNS, exN, kRR, kT⟩ := kit_of_B kb
  have hWW : ∀ H : Hp, SqT K H aW waits := fun H => .inr ⟨_, _, _, lWW, rfl, rfl, by show 3 ≤ sizeLine; decide, .cons ⟨_, rfl⟩ (.cons ⟨_, rfl⟩ (.cons ⟨_, rfl⟩ .nil))⟩
  have aT : ∀ T ∈ ["NoneType", "bool", "int", "list", "str", "dict", "tuple"], AddT K cR T := fun T hT => by
    simp only [List.mem_cons, List.mem_nil_iff, or_false] at hT
    rcases hT with rfl | rfl | rfl | rfl | rfl | rfl | rfl
    · exact ⟨⟨_, _, fo_0, ro_0⟩, su0⟩
    · exact ⟨⟨_, _, fo_1, ro_1⟩, su1⟩
    · exact ⟨⟨_, _, fo_2, ro_2⟩, su2⟩
    · exact ⟨⟨_, _, fo_3, ro_3⟩, su3⟩
    · exact ⟨⟨_, _, fo_4, ro_4⟩, su4⟩
    · exact ⟨⟨_, _, fo_5, ro_5⟩, su5⟩
    · exact ⟨⟨_, _, fo_6, ro_6⟩, su6⟩
  have R : RowC K mg cR fRI fAdd fRadd := ⟨PySem.W.mg_of X G aR, ⟨pgR, hdR, poR, saR⟩, nSR, nHR, ⟨mkR, aRI, iRI, kCR⟩, ⟨sfR, aAdd, iAdd, aRadd, iRadd⟩, haR, hn, ht, hmR, kRR, kT, aT, ⟨_, _, fo_6, ro_6, rtup⟩⟩
  have FPr : FunD K "price" "price" (defArgs sPr) (defBody sPr) (defScope sPr) [] [("wait", .int 3), ("plain", .int 1)] fPr _ := ⟨⟨_, _, _, _, _, _, _, _, _, _, rfl, lPr, ccPr, .inl ⟨rfl, rfl⟩, .inr ⟨kdD, rfl, fun q hq => by
    rcases List.mem_cons.mp hq with e | hq
    · rw [e]; exact ⟨_, kdW, _, rfl⟩
    · rw [List.mem_singleton.mp hq]; exact ⟨_, kdP, _, rfl⟩⟩⟩, kfPr⟩
  refine ⟨PySem.W.fnOf "law" "law" (defArgs sLaw) (defBody sLaw) (defScope sLaw) .none kVL dcL pmL anL cdL ctL, fun s v => .of_eq rfl, fun base _ _ => ?_⟩
  have T : Er P w K mg base "InvalidStep" "index" cI fI _ := ⟨PySem.W.mg_of X G aI, oI, nI, ok_IS FIS, bIS⟩
  have TS : Er P w K mg base "InvalidStock" "value" cS fS _ := ⟨PySem.W.mg_of X G aS, oS, nS, ok_IStk FISk, bISk⟩
  have TN : Er P w K mg base "InvalidNumber" "value" cN fN _ := ⟨PySem.W.mg_of X G aN, oN, nN, ok_INum FIN, bIN⟩
  have gName := ok_name (P := P) (w := w) (base := base) FName (z z_isinstance) (z z_str) (z z_len) (z z_all) (PySem.W.mg_of X G gML)
  have gStep := ok_step FStep gName CName (z z_isinstance) (z z_str) (z z_tuple) (z z_len) (PySem.W.mg_of X G gK) DK
  have gBr := ok_br (P := P) (w := w) (mg := mg) (base := base) FBr
  have gBeh := ok_beh (P := P) (w := w) (mg := mg) (base := base) FBeh
  have gHeld := ok_held FHeld gBr CBr gBeh CBeh
  have gWr := ok_wr (P := P) (w := w) (mg := mg) (base := base) FWr
  have gWL := ok_wl FWL gBr CBr gBeh CBeh gWr CWr (z z_enumerate)
  have gCh := ok_check FCh gStep CStep gWL CWL T (PySem.W.mg_of X G gMS) (z z_enumerate) (z z_len)
  have gRI := ok_RI (d := dK) (C := cR) (CI := cI) FRI R gCh CCh gHeld CHeld
  have gIn := ok_in (d := dK) FIn R T (z z_isinstance) (z z_tuple)
  have gAdd := ok_add FAdd R gRI gIn CIn
  have gSt := ok_steps (P := P) (w := w) (base := base) (d := dK) FSt R (z z_list)
  have gStN := ok_stepsN (P := P) (w := w) (base := base) FSt R (z z_list)
  have mSt : Meth K cR "steps" fSt := ⟨aSt, iSt, kfSt⟩
  have gIx := ok_ix (P := P) (w := w) (base := base) FIx (z z_isinstance) (z z_int) (z z_bool)
  have gGR := ok_gr FGR gWL CWL
  have gCNm := ok_cnm FCNm gIx CIx TN
  have gCPr := ok_cpr FCPr gCNm CCNm (PySem.W.mg_of X G gMP)
  have gCLg := ok_clg FCLg gCNm CCNm (PySem.W.mg_of X G gMI)
  have gISt := ok_ist FISt gStep CStep (PySem.W.mg_of X G gMI) (z z_isinstance) (z z_list) (z z_len) (z z_all) (z z_set)
  have gCSt := ok_cst FCSt gISt CISt TS
  have gLC := ok_lc (P := P) (w := w) (base := base) FLC (z z_range)
  have gRO := ok_rows FRO gCSt CCSt gCLg CCLg gGR CGR gLC CLC R gRI (z z_tuple) (z z_range) (z z_len)
  have gLRo := ok_lro FLRo R TS TN exS exNS exN nsS nsN gRO CRO gStN bSt mSt (z z_repr)
  have gCo := ok_cost (P := P) (w := w) (base := base) FCo (PySem.W.mg_of X G gWW) hWW (z z_sum)
  have gPr := ok_price FPr R gCPr CCPr gCo CCo gSt bSt mSt
  have gLPr := ok_lpr FLPr TN exN gPr (PySem.W.mg_of X G aPr) FPr (z z_repr)
  have gBal := ok_bal (P := P) (w := w) (base := base) FBal (z z_enumerate)
  have gLst := ok_listed (d := dK) FLst gBal CBal (z z_range)
  have gNum := ok_num (P := P) (w := w) (base := base) (k := 0) FNum (z z_max) (z z_range) (z z_len)
  have gPool := ok_pool FPool gNum CNum
  have gDraw := ok_draw (P := P) (w := w) (base := base) FDraw (z z_len) (z z_int)
  have gPick := ok_pick FPick gDraw CDraw (z z_len)
  have gDrw := ok_drawn FDrw hW gDraw CDraw gPick CPick (z z_len) (z z_range) (z z_int)
  have gRf := ok_refused FRf hW gLRo CLRo gLPr CLPr (z z_len) (z z_repr) (z z_tuple) (z z_list)
  exact ok_law FL R gPool CPool gDraw CDraw gPick CPick gDrw CDrw gLRo CLRo gLst CLst gRf CRf gLPr CLPr gPr (PySem.W.mg_of X G aPr) FPr gRI gAdd bAdd (z z_enumerate) (z z_int) (z z_len) (z z_tuple) (z z_list) (z z_min)
theorem walk {l : PySem.W.OpenLaw} {q : Program} {loose : List Str} {XP : (Str → Option Value) → Heap → Prop} {YP : World → Heap → Prop} {d : DefRec} {K : Params → PySem.W.Frag} (hn : l.most = some 63) (hdf : d.params.defaults = [])
    (hY : ∀ (w : World) (h : Heap), YP w h → (K w.params).In h)
    (F : ∀ (w : World) (mg : Str → Option Value) (fa : Addr) (h : Heap), (K w.params).In h → h.Ns mainGlobals mg → mg d.name = some (.ref fa) →
      ∃ fd : FuncData, (∀ (s : Shared) (u : Value), BindsTo s fd ⟨[u], []⟩ [("_law_script", u)]) ∧ ∀ base : Heap, (K w.params).In base → base.Ns mainGlobals mg → FnOkG l.prog w (K w.params) mg base CX0 10 fa fd ["_law_script"] (spLaw (K w.params))) :
    PySem.W.WalkO q loose XP YP l.row.toRowW d [] (fun f vs => PySem.call f vs) :=
  L2.walk_ofG (n := 63) (k := 10) (x := "_law_script") (CX := fun _ => CX0) (sp := fun w => spLaw (K w.params)) hn (by decide) hdf ⟨rfl, by decide, by decide⟩ hY F (fun _ _ a ns hl _ hS => ⟨a, ns, rfl, hS, hl, fun _ => rfl⟩) fun _ _ _ _ _ z => z
end Rw

/-! U15 -/
open PySem PySem.W PyProof.Rows
set_option maxRecDepth 100000 in
set_option maxHeartbeats 0 in
theorem PySem.Challenge.cw_takendown_k55_whole_rows_out_of_stocks_holds : PySem.Challenge.rw_takendown_k55_whole_rows_out_of_stocks.Holds := by
  w_on; o_law; k_head; (case hw => w_witness2)
  k_fill
  refine Rw.walk (l := PySem.Challenge.rw_takendown_k55_whole_rows_out_of_stocks) rfl rfl (fun w h Y => PySem.W.kIn_of Y) ?F
  case F =>
    intro w mg fa h KX G hmg
    refine' Rw.all_mk KX G hmg ?aI ?xI ?saI ?gaI ?ggI ?nI ?iI ?tI ?kCI ?eCI ?tCI ?hCI ?haI ?hmI ?aS ?xS ?saS ?gaS ?ggS ?nS ?iS ?tS ?kCS ?eCS ?tCS ?hCS ?haS ?hmS ?aN ?xN ?saN ?gaN ?ggN ?nN ?iN ?tN ?kCN ?eCN ?tCN ?hCN ?haN ?hmN ?nsS ?nsN ?hn ?ht ?aR ?pgR ?hdR ?poR ?saR ?nSR ?nHR ?mkR ?kCR ?sfR ?haR ?hmR ?kb ?fo_0 ?ro_0 ?su0 ?fo_1 ?ro_1 ?su1 ?fo_2 ?ro_2 ?su2 ?fo_3 ?ro_3 ?su3 ?fo_4 ?ro_4 ?su4 ?fo_5 ?ro_5 ?su5 ?fo_6 ?ro_6 ?su6 ?rtup ?gWW ?lWW ?gK ?lK ?hK ?lowK ?w0 ?w1 ?w2 ?w3 ?w4 ?w5 ?w6 ?w7 ?w8 ?w9 ?gML ?gMS ?gMI ?gMP ?aName ?aStep ?aBr ?aBeh ?aHeld ?aWr ?aWL ?aCh ?aIn ?aIx ?aGR ?aCNm ?aCPr ?aCLg ?aISt ?aCSt ?aLC ?aRO ?aCo ?aNum ?aPool ?aDraw ?aPick ?aBal ?aLst ?aLRo ?aLPr ?aDrw ?aRf ?aL ?aRI ?iRI ?aAdd ?iAdd ?aRadd ?iRadd ?aSt ?iSt ?lName ?ccName ?kfName ?lStep ?ccStep ?kfStep ?lBr ?ccBr ?kfBr ?lBeh ?ccBeh ?kfBeh ?lHeld ?ccHeld ?kfHeld ?lWr ?ccWr ?kfWr ?lWL ?ccWL ?kfWL ?lCh ?ccCh ?kfCh ?lIn ?ccIn ?kfIn ?lIx ?ccIx ?kfIx ?lGR ?ccGR ?kfGR ?lCNm ?ccCNm ?kfCNm ?lCPr ?ccCPr ?kfCPr ?lCLg ?ccCLg ?kfCLg ?lISt ?ccISt ?kfISt ?lCSt ?ccCSt ?kfCSt ?lLC ?ccLC ?kfLC ?lRO ?ccRO ?kfRO ?lCo ?ccCo ?kfCo ?lNum ?ccNum ?kfNum ?lPool ?ccPool ?kfPool ?lDraw ?ccDraw ?kfDraw ?lPick ?ccPick ?kfPick ?lBal ?ccBal ?kfBal ?lLst ?ccLst ?kfLst ?lLRo ?ccLRo ?kfLRo ?lLPr ?ccLPr ?kfLPr ?lDrw ?ccDrw ?kfDrw ?lRf ?ccRf ?kfRf ?lL ?ccL ?kfL ?lIS ?ccIS ?kfIS ?lISk ?ccISk ?kfISk ?lIN ?ccIN ?kfIN ?lRI ?ccRI ?kfRI ?lAdd ?ccAdd ?kfAdd ?lRadd ?ccRadd ?kfRadd ?lSt ?ccSt ?kfSt ?aPr ?lPr ?ccPr ?kfPr ?kdW ?kdP ?z_isinstance ?z_str ?z_len ?z_all ?z_tuple ?z_enumerate ?z_list ?z_max ?z_range ?z_int ?z_bool ?z_set ?z_sum ?z_min ?z_repr
    (case aI => k_is)
    (case xI => k_is)
    (case saI => k_is)
    (case gaI => k_is)
    (case ggI => k_is)
    (case nI => k_is)
    (case iI => k_is)
    (case tI => k_is)
    (case kCI => k_is)
    (case eCI => k_is)
    (case tCI => k_is)
    (case hCI => k_is)
    (case haI => k_is)
    (case hmI => k_is)
    (case aS => k_is)
    (case xS => k_is)
    (case saS => k_is)
    (case gaS => k_is)
    (case ggS => k_is)
    (case nS => k_is)
    (case iS => k_is)
    (case tS => k_is)
    (case kCS => k_is)
    (case eCS => k_is)
    (case tCS => k_is)
    (case hCS => k_is)
    (case haS => k_is)
    (case hmS => k_is)
    (case aN => k_is)
    (case xN => k_is)
    (case saN => k_is)
    (case gaN => k_is)
    (case ggN => k_is)
    (case nN => k_is)
    (case iN => k_is)
    (case tN => k_is)
    (case kCN => k_is)
    (case eCN => k_is)
    (case tCN => k_is)
    (case hCN => k_is)
    (case haN => k_is)
    (case hmN => k_is)
    (case nsS => k_is)
    (case nsN => k_is)
    (case hn => k_is)
    (case ht => k_is)
    (case aR => k_is)
    (case pgR => k_is)
    (case hdR => k_is)
    (case poR => k_is)
    (case saR => k_is)
    (case nSR => k_is)
    (case nHR => k_is)
    (case mkR => k_is)
    (case kCR => k_is)
    (case sfR => k_is)
    (case haR => k_is)
    (case hmR => k_is)
    (case kb => kernel_rfl)
    (case fo_0 => k_is)
    (case ro_0 => k_is)
    (case su0 => k_is)
    (case fo_1 => k_is)
    (case ro_1 => k_is)
    (case su1 => k_is)
    (case fo_2 => k_is)
    (case ro_2 => k_is)
    (case su2 => k_is)
    (case fo_3 => k_is)
    (case ro_3 => k_is)
    (case su3 => k_is)
    (case fo_4 => k_is)
    (case ro_4 => k_is)
    (case su4 => k_is)
    (case fo_5 => k_is)
    (case ro_5 => k_is)
    (case su5 => k_is)
    (case fo_6 => k_is)
    (case ro_6 => k_is)
    (case su6 => k_is)
    (case rtup => rfl)
    (case gWW => k_is)
    (case lWW => k_is)
    (case gK => k_is)
    (case lK => k_is)
    (case hK => k_keys)
    (case lowK => rfl)
    (case w0 => k_is)
    (case w1 => k_is)
    (case w2 => k_is)
    (case w3 => k_is)
    (case w4 => k_is)
    (case w5 => k_is)
    (case w6 => k_is)
    (case w7 => k_is)
    (case w8 => k_is)
    (case w9 => k_is)
    (case gML => k_is)
    (case gMS => k_is)
    (case gMI => k_is)
    (case gMP => k_is)
    (case aName => k_is)
    (case aStep => k_is)
    (case aBr => k_is)
    (case aBeh => k_is)
    (case aHeld => k_is)
    (case aWr => k_is)
    (case aWL => k_is)
    (case aCh => k_is)
    (case aIn => k_is)
    (case aIx => k_is)
    (case aGR => k_is)
    (case aCNm => k_is)
    (case aCPr => k_is)
    (case aCLg => k_is)
    (case aISt => k_is)
    (case aCSt => k_is)
    (case aLC => k_is)
    (case aRO => k_is)
    (case aCo => k_is)
    (case aNum => k_is)
    (case aPool => k_is)
    (case aDraw => k_is)
    (case aPick => k_is)
    (case aBal => k_is)
    (case aLst => k_is)
    (case aLRo => k_is)
    (case aLPr => k_is)
    (case aDrw => k_is)
    (case aRf => k_is)
    (case aL => k_is)
    (case aRI => k_is)
    (case iRI => k_is)
    (case aAdd => k_is)
    (case iAdd => k_is)
    (case aRadd => k_is)
    (case iRadd => k_is)
    (case aSt => k_is)
    (case iSt => k_is)
    (case lName => k_is)
    (case ccName => k_is)
    (case kfName => k_is)
    (case lStep => k_is)
    (case ccStep => k_is)
    (case kfStep => k_is)
    (case lBr => k_is)
    (case ccBr => k_is)
    (case kfBr => k_is)
    (case lBeh => k_is)
    (case ccBeh => k_is)
    (case kfBeh => k_is)
    (case lHeld => k_is)
    (case ccHeld => k_is)
    (case kfHeld => k_is)
    (case lWr => k_is)
    (case ccWr => k_is)
    (case kfWr => k_is)
    (case lWL => k_is)
    (case ccWL => k_is)
    (case kfWL => k_is)
    (case lCh => k_is)
    (case ccCh => k_is)
    (case kfCh => k_is)
    (case lIn => k_is)
    (case ccIn => k_is)
    (case kfIn => k_is)
    (case lIx => k_is)
    (case ccIx => k_is)
    (case kfIx => k_is)
    (case lGR => k_is)
    (case ccGR => k_is)
    (case kfGR => k_is)
    (case lCNm => k_is)
    (case ccCNm => k_is)
    (case kfCNm => k_is)
    (case lCPr => k_is)
    (case ccCPr => k_is)
    (case kfCPr => k_is)
    (case lCLg => k_is)
    (case ccCLg => k_is)
    (case kfCLg => k_is)
    (case lISt => k_is)
    (case ccISt => k_is)
    (case kfISt => k_is)
    (case lCSt => k_is)
    (case ccCSt => k_is)
    (case kfCSt => k_is)
    (case lLC => k_is)
    (case ccLC => k_is)
    (case kfLC => k_is)
    (case lRO => k_is)
    (case ccRO => k_is)
    (case kfRO => k_is)
    (case lCo => k_is)
    (case ccCo => k_is)
    (case kfCo => k_is)
    (case lNum => k_is)
    (case ccNum => k_is)
    (case kfNum => k_is)
    (case lPool => k_is)
    (case ccPool => k_is)
    (case kfPool => k_is)
    (case lDraw => k_is)
    (case ccDraw => k_is)
    (case kfDraw => k_is)
    (case lPick => k_is)
    (case ccPick => k_is)
    (case kfPick => k_is)
    (case lBal => k_is)
    (case ccBal => k_is)
    (case kfBal => k_is)
    (case lLst => k_is)
    (case ccLst => k_is)
    (case kfLst => k_is)
    (case lLRo => k_is)
    (case ccLRo => k_is)
    (case kfLRo => k_is)
    (case lLPr => k_is)
    (case ccLPr => k_is)
    (case kfLPr => k_is)
    (case lDrw => k_is)
    (case ccDrw => k_is)
    (case kfDrw => k_is)
    (case lRf => k_is)
    (case ccRf => k_is)
    (case kfRf => k_is)
    (case lL => k_is)
    (case ccL => k_is)
    (case kfL => k_is)
    (case lIS => k_is)
    (case ccIS => k_is)
    (case kfIS => k_is)
    (case lISk => k_is)
    (case ccISk => k_is)
    (case kfISk => k_is)
    (case lIN => k_is)
    (case ccIN => k_is)
    (case kfIN => k_is)
    (case lRI => k_is)
    (case ccRI => k_is)
    (case kfRI => k_is)
    (case lAdd => k_is)
    (case ccAdd => k_is)
    (case kfAdd => k_is)
    (case lRadd => k_is)
    (case ccRadd => k_is)
    (case kfRadd => k_is)
    (case lSt => k_is)
    (case ccSt => k_is)
    (case kfSt => k_is)
    (case aPr => k_is)
    (case lPr => k_is)
    (case ccPr => k_is)
    (case kfPr => k_is)
    (case kdW => k_is)
    (case kdP => k_is)
    (case z_isinstance => k_is)
    (case z_str => k_is)
    (case z_len => k_is)
    (case z_all => k_is)
    (case z_tuple => k_is)
    (case z_enumerate => k_is)
    (case z_list => k_is)
    (case z_max => k_is)
    (case z_range => k_is)
    (case z_int => k_is)
    (case z_bool => k_is)
    (case z_set => k_is)
    (case z_sum => k_is)
    (case z_min => k_is)
    (case z_repr => k_is)
