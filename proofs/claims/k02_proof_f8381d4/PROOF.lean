import PyProof.Rows.All
import Wide.All
import OpenK.AllK
import Wide.FinOn
import PyProof.Rows.NestShow
import HandS.ForMost
import HandS.ForExc
import HandS.Ends
import HandS.ExcInit
import HandS.ExcIs
import HandS.IsInst
import HandS.ExcField
import HandS.MakeKw
import HandS.MakeKwOnly
import KE.KExcInit
import KE.KExcIs
import KE.KOpsOwn
import HandS.Wide
import HandS.Flow
import HandS.Star
import HandS.ClsMeth
import HandS.Deep
import HandS.OwnEq
import HandS.TupAny
import HandS.More
import HandS.WrittenGet
import KE.GoesMore
import KE.GoesEnum
import KE.KRevSl
import HandS.SetTxt0
import HandS.Set
import HandS.SetBool
import PyProof.StrOps2
import HandS.Style
import HandS.TupMul
import HandS.Property
import HandS.TupSets
import PyProof.SeqInW
import PyProof.InstNe
import HandS.GenBody
import HandS.GenYield
import HandS.GenCall
import HandS.GenList
import KE.GoesRaise
import KE.GoesComp
import HandS.Dict
import HandS.Walk
import HandS.Iter
import HandS.TupLe
import PySem.Challenge.RW_takendown_k02_whole_bodies_walked
set_option Elab.async false
set_option linter.all false
set_option maxRecDepth 100000
set_option maxHeartbeats 400000
/-! E1 -/
/-! ### own error classes with an __init__ of their own, over any built-in base; made by position and by keywords -/
namespace PySem
namespace LwX
open PySem.HandSPX Builtin Builtin.ObjectAttr
section
variable {M : Model} {A : Around} {E : Value → Shared → Prop} {h : Heap} {g : Array GenState} {d : Drawn} {t : Nat} {os : OsState}
variable {nm q : Str} {C N : Addr} {bs bm bmB : List Value} {hdct : Bool} {sn : List Str} {sub : List Value} {ab : Bool} {col : Option Bool} {dd : Option Addr} {k0 k1 k2 k3 k5 : Option Value} {B newId initId : String}
theorem check_new_kw (F : ExcBaseFacts B newId initId bmB) (hT : ∀ X : String, bm.contains (.type X) = bmB.contains (.type X)) {rest : List Value} {kw : List (Str × Value)} {Q : Unit → Shared → Prop}
    (hC : h.get? C = some (excClassObj nm q C N bs bm hdct sn sub ab col dd k0 k1 k2 k3 k5 newId)) (hq : Q () ⟨h, g, d, t, os⟩) : wpAny M A (checkBuiltinCall newId ⟨.ref C :: rest, kw⟩) Q E ⟨h, g, d, t, os⟩ := by
  have hcont : (Value.ref C :: bm).contains (.type B) = true := by rw [List.contains_cons, hT, F.hasB, Bool.or_true]
  have hstar := F.noStar
  simp only [checkBuiltinCall, F.newKind, F.newSplit, F.newRow]
  repeat (first | refine wpAny_loadPart_at hC ?_ | (refine wpAny_isSubtype_exc hC ?_; rw [hcont]) | refine wpAny_staticBase_exc hC ?_ | refine wpAny_madeBy_exc hC ?_ | simp only [bne_self_eq_false, Bool.false_eq_true, if_false] | wp_step)
  exact hq
end
section
variable {prog : Program} {w : World} {A : Around} {E : Value → Shared → Prop} {R : Result → Shared → Prop} {h : Heap} {g : Array GenState} {d : Drawn} {t : Nat} {os : OsState}
variable {nm q : Str} {C N : Addr} {bs bm bmB : List Value} {hdct : Bool} {sn : List Str} {sub : List Value} {ab : Bool} {col : Option Bool} {dd : Option Addr} {k0 k1 k2 k3 k5 : Option Value} {B newId initId : String}
theorem new_kw (F : ExcBaseFacts B newId initId bmB) (hT : ∀ X : String, bm.contains (.type X) = bmB.contains (.type X)) {rest : List Value} {kw : List (Str × Value)}
    (hC : h.get? C = some (excClassObj nm q C N bs bm hdct sn sub ab col dd k0 k1 k2 k3 k5 newId))
    (hq : R (.ok (.ret (.ref (h.objs.size + 1)))) ⟨(h.push { cls := .type "tuple", data := .seq rest.toArray }).push
      { cls := .ref C, data := .fields #[.ref h.objs.size, .none, .none, .none, .bool false, .none] }, g, d, t, os⟩) (hrest : rest.length ≤ sizeLine) :
    codeAny (model prog w) A (.builtin newId ⟨.ref C :: rest, kw⟩) R ⟨h, g, d, t, os⟩ := by
  have hends := F.ends
  have hcB : (Value.ref C :: bm).contains (.type B) = true := by rw [List.contains_cons, hT, F.hasB, Bool.or_true]
  have hcA : (Value.ref C :: bm).contains (.type "AttributeError") = false := by rw [List.contains_cons, hT, F.noAttr]; rfl
  have hcN : (Value.ref C :: bm).contains (.type "NameError") = false := by rw [List.contains_cons, hT, F.noName]; rfl
  refine codeAny_builtinAt F.entry ?_
  unfold Builtin.«BaseException.__new__»
  refine wpAt_bind ?_
  show wpAt _ _ _ (stack >>= _) _ _ _
  refine wpAt_bind (wpAt_stack fun p below => wpAt_of_wpAny ?_)
  wp_walk
  refine wpAt_of_wpAny ?_
  rw [F.owner]
  repeat (first | with_reducible refine wpAny_madeHere_exc F.canon hC ?_ | with_reducible refine wpAny_loadPart_at hC ?_ | (with_reducible refine wpAny_isSubtype_exc hC ?_; first | rw [hcB] | rw [hcA] | rw [hcN]) | wp_step)
  show R _ _
  rw [Heap.size_push]
  exact hq
theorem type_call_kw (F : ExcBaseFacts B newId initId bmB) (hT : ∀ X : String, bm.contains (.type X) = bmB.contains (.type X)) {rest : List Value} {kw : List (Str × Value)} {fI : Addr} {Q : Fin → Shared → Prop}
    (hC : h.get? C = some (excClassObj nm q C N bs bm hdct sn sub ab col dd k0 k1 k2 k3 k5 newId))
    (hi : W.Looks (model prog w) h (typeLookup (.ref C) "__init__") (some (.ref fI))) (hb : ∀ self, W.Looks (model prog w) h (bindSpecial (.ref fI) self) (.ref fI, [self])) (hrest : rest.length ≤ sizeLine)
    (hq : codeAny (model prog w) A (.call (.ref fI) ⟨.ref (h.objs.size + 1) :: rest, kw⟩)
      (fun r s' => match r with | .ok (.ret v) => v = .none ∧ Q (.done (.ret (.ref (h.objs.size + 1)))) s' | .ok _ => False | .error e => E e s')
      ⟨(h.push (W.kdv_tup rest)).push (excO C h.objs.size), g, d, t, os⟩) :
    wpAny (model prog w) A (Builtin.«type.__call__» ⟨.ref C :: rest, kw⟩) Q E ⟨h, g, d, t, os⟩ := by
  repeat (first | with_reducible refine wpAny_loadPart_at hC ?_ | with_reducible refine wpAny_madeBy_exc hC ?_ | wp_step)
  refine codeAny_call_builtin_code (Code.quiet_builtin _ F.quiet) (check_new_kw F hT hC ?_)
  refine new_kw F hT hC ?_ hrest
  show wpAny _ _ _ _ _ _
  have k : ∀ b o, h.get? b = some o → ((h.push (W.kdv_tup rest)).push (excO C h.objs.size)).get? b = some o := fun b o e => Heap.get?_push_of_some _ (Heap.get?_push_of_some _ e)
  have hC₁ := k _ _ hC
  have hget : ((h.push (W.kdv_tup rest)).push (excO C h.objs.size)).get? (h.objs.size + 1) = some (excO C h.objs.size) := by heap_get
  have hcC : (Value.ref C :: bm).contains (.ref C) = true := by simp
  have i1 := hi.keeps k
  have b1 := (hb (.ref (h.objs.size + 1))).keeps k
  unfold isInstance
  repeat (first | with_reducible refine wpAny_loadPart_at hget ?_ | (with_reducible refine wpAny_isSubtype_exc hC₁ ?_; rw [hcC]) | wp_step)
  show wpAny _ _ (typeLookup (.ref C) _) _ _ _
  refine i1.at ?_
  refine wpAny_holding (wpAny_bind (b1.at ?_))
  refine wpAny_bind (wpAny_call (codeAny_mono hq fun r s' z => ?_))
  rcases r with e | (v | _ | _ | _) <;> first | exact z | exact z.elim | skip
  obtain ⟨rfl, z⟩ := z
  first
    | exact wpAny_pure (wpAny_pure z)
    | (wp_walk; exact z)
theorem check_type_call_kw {M : Model} {rest : List Value} {kw : List (Str × Value)} {Q : Unit → Shared → Prop} (hC : h.get? C = some (excClassObj nm q C N bs bm hdct sn sub ab col dd k0 k1 k2 k3 k5 newId)) (hq : Q () ⟨h, g, d, t, os⟩) :
    wpAny M A (checkBuiltinCall "type.__call__" ⟨.ref C :: rest, kw⟩) Q E ⟨h, g, d, t, os⟩ := by
  have f3 := tc_sub
  have hT : (⟨h, g, d, t, os⟩ : Shared).TypeIs (.ref C) "type" := ⟨_, hC, rfl⟩
  simp only [checkBuiltinCall, tc_kind, tc_split]
  repeat (any_goals (first | assumption | with_reducible refine wpAny_loadPart_at hC ?_ | with_reducible refine wpAny_onRaise ?_ | with_reducible refine wpAny_map ?_ | wp_step))
theorem call_kw (F : ExcBaseFacts B newId initId bmB) (hT : ∀ X : String, bm.contains (.type X) = bmB.contains (.type X)) {rest : List Value} {kw : List (Str × Value)} {fI : Addr}
    (hC : h.get? C = some (excClassObj nm q C N bs bm hdct sn sub ab col dd k0 k1 k2 k3 k5 newId))
    (hi : W.Looks (model prog w) h (typeLookup (.ref C) "__init__") (some (.ref fI))) (hb : ∀ self, W.Looks (model prog w) h (bindSpecial (.ref fI) self) (.ref fI, [self])) (hrest : rest.length ≤ sizeLine)
    (hq : codeAny (model prog w) (A.under (.builtin "type.__call__" ⟨.ref C :: rest, kw⟩)) (.call (.ref fI) ⟨.ref (h.objs.size + 1) :: rest, kw⟩) (W.InitBack (h.objs.size + 1) R)
      ⟨(h.push (W.kdv_tup rest)).push (excO C h.objs.size), g, d, t, os⟩) :
    codeAny (model prog w) A (.call (.ref C) ⟨rest, kw⟩) R ⟨h, g, d, t, os⟩ := by
  have f1 := tc_lookup
  have f2 := tc_bind (.ref C)
  have hTy : (⟨h, g, d, t, os⟩ : Shared).TypeIs (.ref C) "type" := ⟨_, hC, rfl⟩
  refine codeAny_of_tree ?_
  show wpAny _ _ (callAny (.ref C) _) _ _ _
  repeat (any_goals (first | assumption | with_reducible refine wpAny_loadPart_at hC ?_ | wp_step))
  refine ⟨rfl, ?_⟩
  refine codeAny_call_builtin_at (Code.quiet_builtin _ (by decide +kernel)) entry_typeCall (check_type_call_kw hC (type_call_kw F hT hC hi hb hrest ?_))
  refine codeAny_mono hq fun r s' z => ?_
  rcases r with e | (v | _ | _ | _) <;> exact z
end
section
variable {prog : Program} {w : World} {A : Around} {E : Value → Shared → Prop} {R : Result → Shared → Prop} {hp : Heap} {g : Array GenState} {d : Drawn} {t : Nat} {os : OsState} {B : String} {bmB : List Value}
/-- self.name = v, the first field -/
theorem osa_first {K : W.Frag} {name : Str} {tk : Tok} {v : Value} {x C : Addr} {fv : Array Value} {cd : ClassData} (SB : StoreFacts B bmB "object.__setattr__" "object")
    (X : K.In hp) (hx : hp.get? x = some { cls := .ref C, data := .fields fv }) (hcd : W.clsIn K C = some cd) (hm : W.excTail bmB cd.mro = true) (hh : cd.hasDict = true) (ha : W.findIn K (.ref C) name = some none)
    (hq : ∀ h' tk' dx, (∀ b o, b ≠ x → hp.get? b = some o → h'.get? b = some o) → hp.objs.size ≤ dx → dx ≠ x → h'.get? x = some { cls := .ref C, dict := some dx, data := .fields fv } →
      h'.Ns1 dx (fun y => if y = name then some v else none) → R (.ok (.ret .none)) ⟨h', g, d, tk', os⟩) :
    codeAny (model prog w) A (.call (.builtin "object.__setattr__") ⟨[.ref x, .str name tk, v], []⟩) R ⟨hp, g, d, t, os⟩ := by
  have I : W.InstAt hp x { cls := .ref C, data := .fields fv } C none := ⟨hx, rfl, rfl, trivial⟩
  have SF := F.store_object
  have hob : cd.mro.contains (.type "object") = true := (W.excTail_contains "object" _ hm).trans SB.hasOwner
  have ne : cd.mro.isEmpty = false := by
    cases e : cd.mro with
    | nil =>
      rw [e] at hob
      cases hob
    | cons _ _ => rfl
  have hxs : x ≠ hp.objs.size := Nat.ne_of_lt (Heap.lt_size hx)
  have sub : W.Looks (model prog w) hp (isInstance (.ref x) (.type "object")) true := I.type.andThen (W.looks_mroIn X (by unfold W.mroIn; rw [hcd, Option.bind_some, if_neg (by rw [ne]; decide), hob]))
  refine codeAny_call_builtin SF.slot.plain SF.entry (@W.check_slot (model prog w) _ _ ⟨hp, g, d, t, os⟩ "object.__setattr__" "object" "__setattr__" (.ref x) [.str name tk, v] [] _ SF.kind SF.split sub (SF.args (.ref x) (.str name tk) v) ?_)
  have hmr : W.Looks (model prog w) hp (mroOf (.ref C)) cd.mro := (W.looks_clsIn X hcd).andThen .now
  have L3 : W.Looks (model prog w) hp (storeTaker? none) none := .now
  have hcls : W.Looks (model prog w) hp (classData C) cd := W.looks_clsIn X hcd
  rw [W.osa_eq, refuse_eq]
  refine wpAny_bind (wpAny_bind (I.type.at (wpAny_bind (hmr.at ?_))))
  rw [W.excTail_pass _ (SB.passes _) _ hm]
  refine wpAny_pure (wpAny_bind (I.type.at (wpAny_bind ((W.looks_findIn X ha).at (wpAny_bind (L3.at ?_))))))
  show wpAny _ _ (storeInOwnDict (.ref x) (.ref C) (.str name tk) name v false) _ _ _
  obtain ⟨nm, bs, mro, ns, qn, hd, sn, sb, ab, col, del⟩ := cd
  dsimp only at hh
  subst hh
  unfold storeInOwnDict ownDictForStores
  repeat (first | with_reducible refine store_in_new ?_ ?_ | with_reducible refine wpAny_loadPart_at hx ?_ | with_reducible refine hcls.at ?_ | wp_step)
  · exact ⟨_, #[], _, (Heap.get?_update_ne _ _ _ _ hxs.symm).trans (Heap.get?_push_at rfl rfl), rfl, fun e he => absurd he (by simp), fun _ => rfl⟩
  · intro h' tk' hn' hs
    have hx₁ : (hp.push { cls := .type "dict", data := .dict #[] }).get? x = some { cls := .ref C, data := .fields fv } := Heap.get?_push_of_some _ hx
    refine hq h' tk' hp.objs.size (fun b o hb ho => ?_) (Nat.le_refl _) hxs.symm ?_ hn'
    · exact (hs.2 b (Nat.ne_of_lt (Heap.lt_size ho))).trans ((Heap.get?_update_ne _ _ _ _ hb).trans (Heap.get?_push_of_some _ ho))
    · exact (hs.2 x hxs).trans (Heap.get?_update_self _ hx₁ rfl)
/-- a further field -/
theorem osa_further {K : W.Frag} {name : Str} {tk : Tok} {v : Value} {x C dx : Addr} {fv : Array Value} {cd : ClassData} {m0 : Str → Option Value} {nl : List Str} (SB : StoreFacts B bmB "object.__setattr__" "object")
    (X : K.In hp) (hx : hp.get? x = some { cls := .ref C, dict := some dx, data := .fields fv }) (hns : hp.Ns1 dx m0) (hw : Within m0 nl) (hz : nl.length ≤ 1000) (hcd : W.clsIn K C = some cd) (hm : W.excTail bmB cd.mro = true) (hh : cd.hasDict = true)
    (ha : W.findIn K (.ref C) name = some none)
    (hq : ∀ h' tk', (∀ b o, b ≠ dx → hp.get? b = some o → h'.get? b = some o) → h'.Ns1 dx (fun y => if y = name then some v else m0 y) → R (.ok (.ret .none)) ⟨h', g, d, tk', os⟩) :
    codeAny (model prog w) A (.call (.builtin "object.__setattr__") ⟨[.ref x, .str name tk, v], []⟩) R ⟨hp, g, d, t, os⟩ := by
  obtain ⟨oD, esD, epD, hoD, hdD, _⟩ := hns.count hw
  have I : W.InstAt hp x { cls := .ref C, dict := some dx, data := .fields fv } C (some oD) := ⟨hx, rfl, rfl, hoD⟩
  have SF := F.store_object
  have hob : cd.mro.contains (.type "object") = true := (W.excTail_contains "object" _ hm).trans SB.hasOwner
  have ne : cd.mro.isEmpty = false := by
    cases e : cd.mro with
    | nil =>
      rw [e] at hob
      cases hob
    | cons _ _ => rfl
  have sub : W.Looks (model prog w) hp (isInstance (.ref x) (.type "object")) true := I.type.andThen (W.looks_mroIn X (by unfold W.mroIn; rw [hcd, Option.bind_some, if_neg (by rw [ne]; decide), hob]))
  refine codeAny_call_builtin SF.slot.plain SF.entry (@W.check_slot (model prog w) _ _ ⟨hp, g, d, t, os⟩ "object.__setattr__" "object" "__setattr__" (.ref x) [.str name tk, v] [] _ SF.kind SF.split sub (SF.args (.ref x) (.str name tk) v) ?_)
  have hmr : W.Looks (model prog w) hp (mroOf (.ref C)) cd.mro := (W.looks_clsIn X hcd).andThen .now
  have L3 : W.Looks (model prog w) hp (storeTaker? none) none := .now
  have hcls : W.Looks (model prog w) hp (classData C) cd := W.looks_clsIn X hcd
  rw [W.osa_eq, refuse_eq]
  refine wpAny_bind (wpAny_bind (I.type.at (wpAny_bind (hmr.at ?_))))
  rw [W.excTail_pass _ (SB.passes _) _ hm]
  refine wpAny_pure (wpAny_bind (I.type.at (wpAny_bind ((W.looks_findIn X ha).at (wpAny_bind (L3.at ?_))))))
  show wpAny _ _ (storeInOwnDict (.ref x) (.ref C) (.str name tk) name v false) _ _ _
  obtain ⟨nm, bs, mro, ns, qn, hd, sn, sb, ab, col, del⟩ := cd
  dsimp only at hh
  subst hh
  unfold storeInOwnDict ownDictForStores
  repeat (first | with_reducible refine PySem.OEX.store_in_old hns hw hz ?_ | with_reducible refine wpAny_loadPart_at hx ?_ | with_reducible refine hcls.at ?_ | wp_step)
  intro h' tk' hn' hs
  exact hq h' tk' (fun b o hb ho => (hs.2 b hb).trans ho) hn'
end
end LwX
end PySem

/-! E2 -/
/-! ### the same over the layer -/
namespace L2
open PySem PySem.Spec PyProof.Rows
/-- what the written part says of an own error class at C whose __init__ is the def at fI -/
structure OexG (K : PySem.W.Frag) (C fI : Addr) : Prop where
  base : ∃ (B newId initId : String) (bmB : List Value), ExcBaseFacts B newId initId bmB ∧ StoreFacts B bmB "object.__setattr__" "object" ∧
    ∃ nm q N bs bm sn sub ab col dd k0 k1 k2 k3 k5, K.lookup C = some (excClassObj nm q C N bs bm true sn sub ab col dd k0 k1 k2 k3 k5 newId) ∧ PySem.W.excTail bmB bm = true
  sa : PySem.W.findIn K (.ref C) "__setattr__" = some (some (.builtin "object.__setattr__"))
  ga : PySem.W.findIn K (.ref C) "__getattribute__" = some (some (.builtin "BaseException.__getattribute__"))
  gg : PySem.W.findIn K (.ref C) "__getattr__" = some none
  exC : PySem.W.subIn K (.ref C) (.type "BaseException") = some true
  tyC : PySem.W.typeIn K (.ref C) = some (.type "type")
  kC : PySem.W.keepIn K (.ref C) = true
  hdC : PySem.W.hasDictIn K C = true
  iC : PySem.W.findIn K (.ref C) "__init__" = some (some (.ref fI))
  tI : PySem.W.typeIn K (.ref fI) = some (.type "function")
  ha : PySem.W.findIn K (.ref C) "__class__" = some (some (.builtin "object.__class__"))
  hn : PySem.W.specialIn K (.builtin "object.__class__") "__get__" = some (some (.builtin "getset_descriptor.__get__"))
  ht : PySem.W.takesIn K (.builtin "object.__class__") = some true
  hm : PySem.W.mroIn K C (.type "object") = some true
section
variable {X : Cx} {pins : List (Addr × Obj)} {σ : St} {H : Hp} {s : Shared} {a C fI dx : Addr} {f : Str} {y : V} {u : Value} {fs : List (Str × V)} {Q : Unit → Shared → Prop} {E : Value → Shared → Prop} {A : Around}
theorem ost_first (T : OexG X.K C fI) (I : Inv X pins σ H s) (e : H a = some (exo a C none)) (hno : PySem.W.findIn X.K (.ref C) f = some none) (ry : RelV y u)
    (h : ∀ dx s', H dx = none → dx ≠ a → Inv X pins σ (upd (upd H dx (exd dx [(f, y)])) a (exo a C (some dx))) s' → Q () s') : wpAny (model X.prog X.w) A (setAttr (.ref a) f u) Q E s := by
  obtain ⟨B, newId, initId, bmB, FB, SB, nm, q, N, bs, bm, sn, sub, ab, col, dd, k0, k1, k2, k3, k5, hC, hbm⟩ := T.base
  have hcl : PySem.W.clsIn X.K C = some { name := nm, bases := bs, mro := .ref C :: bm, ns := N, qualname := q, hasDict := true, slotNames := sn, subclasses := sub, abstract := ab, collection := col, hasDel := false } := by unfold PySem.W.clsIn; rw [hC] <;> rfl
  obtain ⟨t1, ho⟩ := exo_at I.hok e
  obtain ⟨hp, g, d, t, os⟩ := s
  refine PySem.W.set_plain I.kIn (ox := { cls := .ref C, dict := none, data := .fields #[.ref t1, .none, .none, .none, .bool false, .none] }) (od := none) ⟨ho, rfl, rfl, trivial⟩ T.sa ?_
  refine PySem.LwX.osa_first SB I.kIn ho hcl (show PySem.W.excTail bmB (.ref C :: bm) = true from hbm) rfl hno (fun h' tk' dx k dn dne hx hn => ?_)
  have hnd : H dx = none := I.hok.fresh dn
  have nd : ∀ {b : Addr} {o : Obj}, hp.get? b = some o → b ≠ dx := fun {b o} q => Nat.ne_of_lt (Nat.lt_of_lt_of_le (Heap.lt_size q) dn)
  have na : ∀ {b : Addr}, H b = none → b ≠ a := fun {b} n z => by
    rw [z, e] at n
    cases n
  have Un1 : Un X.fs [] H (upd (upd H dx (exd dx [(f, y)])) a (exo a C (some dx))) hp h' := {
    keep := fun b o q n _ _ => k b o (na n) q
    slot := fun b o q n _ _ => ⟨o.slots, k b o (na n) q⟩
    free := fun b o q n _ => by rw [upd_ne (na n), upd_ne (nd q)]; exact n
    there := fun b o q _ => by
      by_cases hb : b = a
      · exact ⟨_, by rw [hb]; exact hx⟩
      · exact ⟨o, k b o hb q⟩
    tups := fun b xs q => by rw [upd_ne (at_ne e q exo_tup), upd_ne (ne_of_none q hnd)]; exact q
    frzs := fun b o v q => by rw [upd_ne (at_ne e q exo_frz), upd_ne (ne_of_none q hnd)]; exact q
    tbls := fun b ps q => ⟨#[], by rw [upd_ne (at_ne e q exo_tbl), upd_ne (ne_of_none q hnd), q]; simp⟩ }
  refine h dx _ hnd dne (I.un (t' := tk') Un1 fun b o q => ?_)
  by_cases hb : b = a
  · subst hb
    rw [upd_same] at q
    cases q
    exact exo_ok hx
  · rw [upd_ne hb] at q
    by_cases hd : b = dx
    · subst hd
      rw [upd_same] at q
      cases q
      exact exd_ok hn (relO_put (fs := []) ry fun g => True.intro)
    · rw [upd_ne hd] at q
      exact (I.hok b o q).stay (fun c v hc z => k c v (by
          rcases hc with hc | hc
          · rw [hc]
            exact hb
          · exact at_ne e hc exo_own) z)
        (fun c hc => by rw [upd_ne (at_ne e hc exo_own), upd_ne (ne_of_none hc hnd)]; exact hc) (fun c xs hc => by rw [upd_ne (at_ne e hc exo_tup), upd_ne (ne_of_none hc hnd)]; exact hc)
theorem ost_further (T : OexG X.K C fI) (I : Inv X pins σ H s) (e : H a = some (exo a C (some dx))) (ed : H dx = some (exd dx fs)) (hl : fs.length ≤ 900) (hno : PySem.W.findIn X.K (.ref C) f = some none) (ry : RelV y u)
    (h : ∀ s', Inv X pins σ (upd H dx (exd dx ((f, y) :: fs))) s' → Q () s') : wpAny (model X.prog X.w) A (setAttr (.ref a) f u) Q E s := by
  obtain ⟨B, newId, initId, bmB, FB, SB, nm, q, N, bs, bm, sn, sub, ab, col, dd, k0, k1, k2, k3, k5, hC, hbm⟩ := T.base
  have hcl : PySem.W.clsIn X.K C = some { name := nm, bases := bs, mro := .ref C :: bm, ns := N, qualname := q, hasDict := true, slotNames := sn, subclasses := sub, abstract := ab, collection := col, hasDel := false } := by unfold PySem.W.clsIn; rw [hC] <;> rfl
  obtain ⟨t1, ho⟩ := exo_at I.hok e
  obtain ⟨mA, hns, rel⟩ := exd_at I.hok ed
  have hw := within_of rel
  obtain ⟨hp, g, d, t, os⟩ := s
  obtain ⟨oD, _, _, hoD, _, _⟩ := hns.count hw
  refine PySem.W.set_plain I.kIn (ox := { cls := .ref C, dict := some dx, data := .fields #[.ref t1, .none, .none, .none, .bool false, .none] }) (od := some oD) ⟨ho, rfl, rfl, hoD⟩ T.sa ?_
  refine PySem.LwX.osa_further SB I.kIn ho hns hw (by rw [List.length_map]; omega) hcl (show PySem.W.excTail bmB (.ref C :: bm) = true from hbm) rfl hno (fun h' tk' k hn => ?_)
  have hd : ∃ o, h'.get? dx = some o := by
    obtain ⟨o, _, _, e', _⟩ := hn
    exact ⟨o, e'⟩
  exact h _ (I.write (t' := tk') (x := dx) (e := dx) (o := exd dx ((f, y) :: fs)) (by rw [ed]; exact True.intro) (.inl rfl) k hd (exd_ok hn (relO_put ry rel)))
end
/-- self.f = e -/
def tOstG (K : PySem.W.Frag) (f : Str) (to te : TE) : TS := fun D σ H => te σ H fun y H1 => to σ H1 fun x H2 => ∃ a C fI : Addr, x = .ref a ∧ OexG K C fI ∧ PySem.W.findIn K (.ref C) f = some none ∧
  ((H2 a = some (exo a C none) ∧ ∀ dx, H2 dx = none → dx ≠ a → D.nx σ (upd (upd H2 dx (exd dx [(f, y)])) a (exo a C (some dx)))) ∨
    ∃ (dx : Addr) (fs : List (Str × V)), H2 a = some (exo a C (some dx)) ∧ H2 dx = some (exd dx fs) ∧ fs.length ≤ 900 ∧ D.nx σ (upd H2 dx (exd dx ((f, y) :: fs))))
/-- C(e, ..), C(k = e, ..): a new error, its __init__ keeping sp -/
def tMkG (C fI : Addr) (K : PySem.W.Frag) (sp : Sp) (ta : TA) : TE := fun σ H Q => ta σ H fun vs H1 => vs.length ≤ 1000 ∧ ∀ a, H1 a = none → sp (.ref a :: vs) (upd H1 a (exo a C none)) (fun v H2 => v = .non ∧ Q (.ref a) H2) (fun _ _ _ => False)
def tMkGK (C fI : Addr) (n : Nat) (sp : Sp) (gV : List V → List V → List V) (tk : TA) : TE := fun σ H Q => tk σ H fun zs H1 => zs.length = n ∧ ∀ a, H1 a = none → sp (gV [.ref a] zs) (upd H1 a (exo a C none)) (fun v H2 => v = .non ∧ Q (.ref a) H2) (fun _ _ _ => False)
/-- e.f of such an error -/
def tXg (K : PySem.W.Frag) (f : Str) (te : TE) : TE := fun σ H Q => te σ H fun x H1 => ∃ (a C fI d : Addr) (fs : List (Str × V)) (v : V), x = .ref a ∧ OexG K C fI ∧ PySem.W.findIn K (.ref C) f = some none ∧ H1 a = some (exo a C (some d)) ∧ H1 d = some (exd d fs) ∧ fs.lookup f = some v ∧ Q v H1
/-- isinstance(e, c) of such an error -/
def rIsG (K : PySem.W.Frag) : List V → Hp → VK → Prop := fun xs H Q => ∃ (a C fI d : Addr) (fs : List (Str × V)) (c : V) (u : Value) (b : Bool), xs = [.ref a, c] ∧ ClsV c u ∧ OexG K C fI ∧ H a = some (exo a C (some d)) ∧ H d = some (exd d fs) ∧
  PySem.W.kitOne K (.ref C) u = some b ∧ Q (.bl b) H
section
variable {X : Cx} {o e : Expr} {es : List Expr} {to te : TE} {ta tk : TA} {f x : Str} {p p' p1 p2 pos : Pos} {CX : CXT} {C fI : Addr} {k : Nat} {fd : FuncData} {ps ks : List Str} {sp : Sp} {kws : List Keyword} {g : List Value → List Value → List Value} {gV : List V → List V → List V}
theorem ps_ostG (ho : PE X o to) (he : PE X e te) (hs : swapsWith e (some (.Attribute o f p')) pos.line X.env = pure false := by rfl) : PS X (.Assign [.Attribute o f p'] e pos) (tOstG X.K f to te) := by
  refine ⟨fun pins s σ H D I h => ?_⟩
  refine plainObj_wpAny_Assign_Attribute (thn (he.run pins s σ H _ I h) fun v s1 ⟨y, H1, I1, r1, q1⟩ => thn (ho.run pins s1 σ H1 _ I1 q1) fun u s2 ⟨x, H2, I2, r2, a, C, fI, ex, T, hno, q⟩ => ?_) hs
  subst ex
  obtain rfl : u = Value.ref a := r2
  rcases q with ⟨ea, q⟩ | ⟨dx, fs, ea, ed, hl, q⟩
  · exact ost_first T I2 ea hno r1 fun dx s' n ne J => ⟨σ, _, J, q dx n ne⟩
  · exact ost_further T I2 ea ed hl hno r1 fun s' J => ⟨σ, _, J, q⟩
theorem run_mkG {pins : List (Addr × Obj)} {σ : St} {H1 : Hp} {s1 : Shared} {Q : VK} {us : List Value} {bV : Addr → List V} {bv : Addr → List Value} {kw : List (Str × Value)} (T : OexG X.K C fI) (F1 : FnOk X.prog X.w X.K X.mg X.base CX k fI fd ps sp) (hr : Room (k + 1) X.A)
    (hx : Passes CX X (fun _ _ _ => False)) (I1 : Inv X pins σ H1 s1) (hz : us.length ≤ sizeLine)
    (hbt : ∀ (a : Addr) (s : Shared), X.K.In s.heap → BindsTo s fd ⟨.ref a :: us, kw⟩ (ps.zip (bv a))) (r3 : ∀ a, Vals (bV a) (bv a))
    (h : ∀ a, H1 a = none → sp (bV a) (upd H1 a (exo a C none)) (fun v H2 => v = .non ∧ Q (.ref a) H2) (fun _ _ _ => False)) :
    wpAny (model X.prog X.w) X.A (call (.ref C) us kw) (EP X pins σ Q) X.xe s1 := by
  obtain ⟨B, newId, initId, bmB, FB, SB, nm, q, N, bs, bm, sn, sub, ab, col, dd, k0, k1, k2, k3, k5, hC, hbm⟩ := T.base
  obtain ⟨hp, g, dr, tk, os⟩ := s1
  have hsz : hp.objs.size ≤ hp.objs.size + 1 := Nat.le_succ _
  have hn : H1 (hp.objs.size + 1) = none := I1.hok.fresh hsz
  have hq := h (hp.objs.size + 1) hn
  have kk : ∀ b o, hp.get? b = some o → ((hp.push (PySem.W.kdv_tup us)).push (PySem.HandSPX.excO C hp.objs.size)).get? b = some o := fun b o e => Heap.get?_push_of_some _ (Heap.get?_push_of_some _ e)
  have hget : ((hp.push (PySem.W.kdv_tup us)).push (PySem.HandSPX.excO C hp.objs.size)).get? (hp.objs.size + 1) = some (PySem.HandSPX.excO C hp.objs.size) := by heap_get
  have I2 : Inv X pins σ (upd H1 (hp.objs.size + 1) (exo (hp.objs.size + 1) C none)) ⟨(hp.push (PySem.W.kdv_tup us)).push (PySem.HandSPX.excO C hp.objs.size), g, dr, tk, os⟩ :=
    I1.laid (t' := tk) (a := hp.objs.size + 1) (o := exo (hp.objs.size + 1) C none) (h' := (hp.push (PySem.W.kdv_tup us)).push (PySem.HandSPX.excO C hp.objs.size)) kk hsz (exo_ok hget)
  refine wpAny_call (PySem.LwX.call_kw FB (fun Y => PySem.W.excTail_contains Y bm hbm) (I1.kIn _ _ hC) (PySem.W.looks_findIn I1.kIn T.iC) (fun self => PySem.W.bind_fn I1.kIn self T.tI) hz
    (codeAny_mono (F1.run _ X.stack _ _ ⟨Value.ref (hp.objs.size + 1) :: us, kw⟩ (bv (hp.objs.size + 1)) _ _ (fun _ _ _ => False) (hr.make C us kw) (I2.env0.make C us kw) (hbt _ _ I2.kIn) (r3 _) hq) fun r s' hq' => ?_))
  cases r with
  | error er => exact hx pins σ _ _ er s' I2 hq'
  | ok fl =>
    cases fl with
    | ret u =>
      obtain ⟨v, H', I3, rv, ev, q3⟩ := I2.after hq'
      subst ev
      exact ⟨rv, ⟨V.ref (hp.objs.size + 1), H', I3, rfl, q3⟩⟩
    | next => exact False.elim hq'
    | brk => exact False.elim hq'
    | cont => exact False.elim hq'
theorem pe_mkG (T : OexG X.K C fI) (F1 : FnOk X.prog X.w X.K X.mg X.base CX k fI fd ps sp) (hr : Room (k + 1) X.A) (hb : Binds X.K fd ps []) (hx : Passes CX X (fun _ _ _ => False)) (hg : Gl X x) (hm : X.mg x = some (.ref C)) (ha : PA X (e :: es) ta)
    (hdb : (x == ("__debug__" : Str)) = false := by decide) (he : starEach (e :: es) X.env = (false, eval e X.env) :: starEach es X.env := by rfl) (hpl : (backTo pos (starEach es X.env)).any (·.1) = false := by rfl) :
    PE X (.Call (.Name x p) (e :: es) [] pos) (tMkG C fI X.K sp ta) := by
  refine ⟨fun pins s σ H Q I h => ?_⟩
  refine wpAny_Call_Name_kw (ld_glob I hg hm ?_ hdb)
  refine PySem.W.callWith_K (h₀ := X.base) I.ok.mod.kin T.kC (thn (ha.run pos pins s σ H _ I h) fun us s1 ⟨vs, H1, I1, r1, hz, q1⟩ => ⟨I1.kIn, ?_⟩) he hpl
  show wpAny _ _ (call (.ref C) us) _ _ _
  refine run_mkG (bv := fun a => .ref a :: us) (bV := fun a => .ref a :: vs) (kw := []) T F1 hr hx I1 (by rw [← Paired.length r1, sizeLine_eq]; omega) (fun a s hk => ?_) (fun a => .cons rfl r1) q1
  have hl : (Value.ref a :: us).length = ps.length := by
    obtain ⟨b, hb0⟩ : ∃ b, H1 b = none := ⟨_, I1.hok.fresh (Nat.le_refl _)⟩
    have z := F1.len _ _ _ _ (q1 b hb0)
    rw [List.length_cons, ← Paired.length r1]
    exact z
  have z := hb s (Value.ref a :: us) hk (by rw [List.append_nil]; exact hl)
  rw [List.append_nil] at z
  exact z
theorem pe_mkGK (T : OexG X.K C fI) (F1 : FnOk X.prog X.w X.K X.mg X.base CX k fI fd ps sp) (hr : Room (k + 1) X.A) (hb : KBn X.K fd ps 1 ks g gV) (hx : Passes CX X (fun _ _ _ => False)) (hg : Gl X x) (hm : X.mg x = some (.ref C)) (hkw : PK X kws tk)
    (hall : (backToKw pos (keywordEach kws X.env)).all (·.1.isSome) = true := by rfl) (hks : (backToKw pos (keywordEach kws X.env)).filterMap (·.1) = ks := by rfl) (hdb : (x == ("__debug__" : Str)) = false := by decide)
    (hpl : ((backTo pos (starEach [] X.env)).any (·.1) || (backToKw pos (keywordEach kws X.env)).any (·.1.isNone)) = false := by rfl) :
    PE X (.Call (.Name x p) [] kws pos) (tMkGK C fI ks.length sp gV tk) := by
  refine ⟨fun pins s σ H Q I h => ?_⟩
  refine wpAny_Call_Name_kw (ld_glob I hg hm ?_ hdb)
  refine PySem.W.callWith_KW0 (h₀ := X.base) I.ok.mod.kin T.kC hall ?_ hpl
  refine thn (hkw.run pos pins s σ H _ I h) fun ws s2 ⟨zs, H2, I2, rz, l2, q2⟩ => ⟨I2.kIn, ?_⟩
  rw [hks]
  exact run_mkG (us := []) (bv := fun a => g [.ref a] ws) (bV := fun a => gV [.ref a] zs) T F1 hr hx I2 (Nat.zero_le _) (fun a s hk => hb.to s [.ref a] ws hk rfl (rz.length.symm.trans l2)) (fun a => hb.rel (.cons rfl .nil) rz) q2
theorem pe_xg (he : PE X e te) (hb : attributeBase e f X.env (eval e X.env) = eval e X.env := by rfl) : PE X (.Attribute e f pos) (tXg X.K f te) := by
  refine ⟨fun pins s σ H Q I h => ?_⟩
  refine attr_of hb (thn (he.run pins s σ H _ I h) fun u s1 hh => ?_)
  obtain ⟨x, H1, I1, rx, a, C, fI, d, fs, v, ex, T, hno, ea, ed, l, q⟩ := hh
  subst ex
  obtain rfl : u = Value.ref a := rx
  obtain ⟨t1, ho⟩ := exo_at I1.hok ea
  obtain ⟨mA, hns, hr⟩ := exd_at I1.hok ed
  obtain ⟨od, hod, hl⟩ := lookIn_ns hns
  obtain ⟨u, hu, ru⟩ := RelO.some_of (v := v) (o := mA f) (by rw [← l]; exact hr f)
  have J : PySem.W.InstAt s1.heap a { cls := .ref C, dict := some d, data := .fields #[.ref t1, .none, .none, .none, .bool false, .none] } C (some od) := ⟨ho, rfl, rfl, hod⟩
  exact HandSPX.exc_get I1.kIn J T.ga T.gg T.exC (PySem.W.findObj_own T.hdC hno rfl (by rw [hl, hu])) (handed_of ru) ⟨v, H1, I1.tok _, ru, q⟩
theorem call_isG : CallR X (.builtin "isinstance") (rIsG X.K) := by
  intro pins s σ H xs us Q I r h
  obtain ⟨a, C, fI, d, fs, c, u, b, rfl, k, T, ea, ed, e, q⟩ := h
  obtain ⟨u1, u2, rfl, r1, r2⟩ := vals2 r
  have e2 := k.eq r2
  subst e2
  cases (show u1 = Value.ref a from r1)
  obtain ⟨t1, ho⟩ := exo_at I.hok ea
  obtain ⟨mA, hns, hr⟩ := exd_at I.hok ed
  obtain ⟨od, hod, hl⟩ := lookIn_ns hns
  have J : PySem.W.InstAt s.heap a { cls := .ref C, dict := some d, data := .fields #[.ref t1, .none, .none, .none, .bool false, .none] } C (some od) := ⟨ho, rfl, rfl, hod⟩
  have hcl : (PySem.W.clsIn X.K C).isSome = true := by
    obtain ⟨cdD, hcD, _⟩ := PySem.W.any_some T.hdC
    rw [hcD]
    rfl
  exact PySem.W.kia_one (PySem.W.kitx_exc hcl T.ga T.gg T.exC T.ha T.hn T.ht T.hm) I.kIn J e (fun z => nomatch z) fun tk => ⟨.bl b, H, I.tok tk, rfl, q⟩
end
end L2

/-! E3 -/
/-! ### repr of nested data, an empty dict among it, where no repr is under way -/
namespace L2
open PySem PySem.Spec PyProof.Rows
mutual
inductive Dq (K : PySem.W.Frag) (H : Hp) : V → PyData → Prop
  | non : Dq K H .non .none
  | bl (b : Bool) : Dq K H (.bl b) (.bool b)
  | int (i : Int) : Dq K H (.int i) (.int i)
  | str (x : Str) : Dq K H (.str x) (.str x)
  | lst {a : Addr} {xs : List V} {ds : List PyData} : SqL K H a xs → DqAll K H xs ds → Dq K H (.ref a) (.list ds)
  | tup {a : Addr} {xs : List V} {ds : List PyData} : SqT K H a xs → DqAll K H xs ds → Dq K H (.ref a) (.tuple ds)
  | dic {a : Addr} : H a = some (.dK []) → Dq K H (.ref a) (.dict [])
inductive DqAll (K : PySem.W.Frag) (H : Hp) : List V → List PyData → Prop
  | nil : DqAll K H [] []
  | cons {v : V} {vs : List V} {d : PyData} {ds : List PyData} : Dq K H v d → DqAll K H vs ds → DqAll K H (v :: vs) (d :: ds)
end
section
variable {X : Cx} {pins : List (Addr × Obj)} {σ : St} {H : Hp} {s : Shared}
mutual
theorem Dq.reprs (I : Inv X pins σ H s) : ∀ (d : PyData) (v : V) (u : Value), Dq X.K H v d → RelV v u → d.showable = true → d.shown.length ≤ sizeLine →
    ∃ as bs, Reads s.heap u d as ∧ ReadAtMost s.heap d.depth bs ∧ ReprK X.prog X.w bs s.heap d.depth u d.shown
  | .none, _, _, h, r, _, _ => by
    cases h
    cases r
    exact ⟨_, [], Reads.none, (fun _ h => nomatch h), by simp only [PyData.shown]; exact .of_is ReprIs.none _ _ _⟩
  | .bool b, _, _, h, r, _, _ => by
    cases h
    cases r
    exact ⟨_, [], Reads.bool b, (fun _ h => nomatch h), by simp only [PyData.shown]; exact .of_is (ReprIs.bool b) _ _ _⟩
  | .int i, _, _, h, r, hs, _ => by
    cases h
    obtain ⟨t, rfl⟩ := r
    exact ⟨_, [], Reads.int i t, (fun _ h => nomatch h), by simp only [PyData.shown]; exact .of_is (ReprIs.int t (by simpa [PyData.showable] using hs)) _ _ _⟩
  | .str x, _, _, h, r, _, hz => by
    cases h
    obtain ⟨t, rfl⟩ := r
    exact ⟨_, [], Reads.str x t, (fun _ h => nomatch h), by simp only [PyData.shown]; exact .of_is (ReprIs.str x t (by simpa only [PyData.shown] using hz)) _ _ _⟩
  | .list ds, _, _, h, r, hs, hz => by
    cases h with
    | @lst a xs _ hq ha =>
      cases r
      obtain ⟨its, rv, ⟨o, n, ho, hc, _, hd⟩, _⟩ := I.list hq
      have hz' : (listText (PyData.shownAll ds)).length ≤ sizeLine := by simpa only [PyData.shown] using hz
      obtain ⟨as, bs, hr, hb, hk⟩ := Dq.reprsAll I ds _ its ha rv (by simpa [PyData.showable] using hs) (fun t ht => Nat.le_trans (listText_mem_le ht) hz')
      have rr : Reads s.heap (.ref a) (.list ds) _ := Reads.list ho hc hd hr
      have hna : a ∉ bs := not_mem_of_deeper rr (by simp only [PyData.depth]; omega) hb
      refine ⟨_, a :: bs, rr, ReadAtMost.cons rr (by simp only [PyData.depth]; omega) hb, ?_⟩
      simp only [PyData.depth, PyData.shown]
      cases its with
      | nil =>
        have h4' : ReadsAll s.heap [] ds _ := hr
        cases h4'
        simp only [PyData.shownAll, listText_nil]
        exact ReprK.listEmpty ho hc hd
      | cons x l => exact ReprK.list ho hc hd hna (by simpa using hk.length_eq) (fun i y e => hk.item i y (by simpa using e))
  | .tuple ds, _, _, h, r, hs, hz => by
    cases h with
    | @tup a xs _ hq ha =>
      cases r
      obtain ⟨its, rv, ⟨o, ho, hc, n, hd⟩, _⟩ := I.tuple hq
      have hz' : (tupleText (PyData.shownAll ds)).length ≤ sizeLine := by simpa only [PyData.shown] using hz
      obtain ⟨as, bs, hr, hb, hk⟩ := Dq.reprsAll I ds _ its ha rv (by simpa [PyData.showable] using hs) (fun t ht => Nat.le_trans (tupleText_mem_le ht) hz')
      have rr : Reads s.heap (.ref a) (.tuple ds) _ := Reads.tuple ho hc hd hr
      have hna : a ∉ bs := not_mem_of_deeper rr (by simp only [PyData.depth]; omega) hb
      refine ⟨_, a :: bs, rr, ReadAtMost.cons rr (by simp only [PyData.depth]; omega) hb, ?_⟩
      simp only [PyData.depth, PyData.shown]
      exact ReprK.tuple ho hc hd hna hk
  | .dict kvs, _, _, h, r, hs, hz => by
    cases h with
    | @dic a ea =>
      cases r
      obtain ⟨_, hsys, vs, kv, o, es, ep, h1, h2, h3⟩ := (show ObjOk X.prog X.w H s.heap a (.dK []) from I.hok a _ ea)
      cases kv
      have hes : es.toList = [] := List.eq_nil_of_length_eq_zero (by rw [PySem.Pairs.length h3.2.2.1]; rfl)
      have e1 : ReadsAll s.heap (es.toList.map (·.key)) (([] : List (PyData × PyData)).map (·.1)) [] := by rw [hes]; exact .nil
      have e2 : ReadsAll s.heap (es.toList.map (·.val)) (([] : List (PyData × PyData)).map (·.2)) [] := by rw [hes]; exact .nil
      have rr : Reads s.heap (.ref a) (.dict []) _ := Reads.dict h1 h2.1 h3.1 e1 e2
      refine ⟨_, [a], rr, ReadAtMost.cons rr (Nat.zero_le (PyData.dict []).depth) (fun _ h => nomatch h), ?_⟩
      simp only [PyData.depth, PyData.shown, PyData.shownKv]
      exact ReprK.dict h1 h2.1 h3.1 hsys (List.not_mem_nil) (by rw [hes]; exact .nil)
theorem Dq.reprsAll (I : Inv X pins σ H s) : ∀ (ds : List PyData) (vs : List V) (us : List Value), DqAll X.K H vs ds → Vals vs us → PyData.showableAll ds = true → (∀ t ∈ PyData.shownAll ds, t.length ≤ sizeLine) →
    ∃ as bs, ReadsAll s.heap us ds as ∧ ReadAtMost s.heap (PyData.depthAll ds) bs ∧ ReprAllK X.prog X.w bs s.heap (PyData.depthAll ds) us (PyData.shownAll ds)
  | [], _, _, h, r, _, _ => by
    cases h
    cases r
    exact ⟨_, [], ReadsAll.nil, (fun _ h => nomatch h), by simp only [PyData.shownAll]; exact .nil⟩
  | d :: ds, _, _, h, r, hs, hz => by
    cases h with
    | cons h1 h2 =>
      cases r with
      | cons r1 r2 =>
        have hs' : d.showable = true ∧ PyData.showableAll ds = true := by simpa [PyData.showableAll] using hs
        obtain ⟨as, b1, q1, hb1, k1⟩ := Dq.reprs I d _ _ h1 r1 hs'.1 (hz _ (by simp only [PyData.shownAll]; exact List.mem_cons_self ..))
        obtain ⟨bs, b2, q2, hb2, k2⟩ := Dq.reprsAll I ds _ _ h2 r2 hs'.2 (fun t ht => hz t (by simp only [PyData.shownAll]; exact List.mem_cons_of_mem _ ht))
        refine ⟨_, b1 ++ b2, ReadsAll.cons q1 q2, ?_, ?_⟩
        · intro b hm
          simp only [PyData.depthAll]
          rcases List.mem_append.mp hm with hm | hm
          · obtain ⟨d', as', r', hd'⟩ := hb1 b hm
            exact ⟨d', as', r', Nat.le_trans hd' (Nat.le_max_left _ _)⟩
          · obtain ⟨d', as', r', hd'⟩ := hb2 b hm
            exact ⟨d', as', r', Nat.le_trans hd' (Nat.le_max_right _ _)⟩
        · simp only [PyData.depthAll, PyData.shownAll]
          exact .cons ((k1.more fun b hb => List.mem_append_left _ hb).level_le (Nat.le_max_left _ _)) (k2.more_le (fun b hb => List.mem_append_right _ hb) (Nat.le_max_right _ _))
end
end
/-- repr of a list -/
def rRepr (K : PySem.W.Frag) : List V → Hp → VK → Prop := fun xs H Q => ∃ (a : Addr) (ds : List PyData), xs = [.ref a] ∧ Dq K H (.ref a) (.list ds) ∧ ds ≠ [] ∧ PyData.showableAll ds = true ∧ PyData.depthAll ds ≤ 40 ∧ (PyData.list ds).shown.length ≤ sizeLine ∧ Q (.str (PyData.list ds).shown) H
theorem call_reprL {X : Cx} (hg : X.A.guards = some []) (hu : X.A.units + 64 < cLine) : CallR X (.builtin "repr") (rRepr X.K) := by
  intro pins s σ H xs us Q I r h
  obtain ⟨a, ds, rfl, hd, hne, hs, hdep, hz, q⟩ := h
  obtain ⟨u, rfl, hu1⟩ := vals1 r
  cases (show u = Value.ref a from hu1)
  cases hd with
  | @lst _ xs _ hq ha =>
    obtain ⟨its, rv, ⟨o, n, ho, hc, _, hd⟩, _⟩ := I.list hq
    have hz' : (listText (PyData.shownAll ds)).length ≤ sizeLine := by simpa only [PyData.shown] using hz
    obtain ⟨as, bs, hr, hb, hk⟩ := Dq.reprsAll I ds _ its ha rv hs (fun t ht => Nat.le_trans (listText_mem_le ht) hz')
    have rr : Reads s.heap (.ref a) (.list ds) _ := Reads.list ho hc hd hr
    have hna : a ∉ bs := not_mem_of_deeper rr (by simp only [PyData.depth]; omega) hb
    cases its with
    | nil =>
      have h4' : ReadsAll s.heap [] ds _ := hr
      cases h4'
      exact absurd rfl hne
    | cons x l =>
      refine call_repr_slot (T := "list") (idr := "list.__repr__") (by omega) ⟨o, ho, hc⟩ F.slot_list_repr.toG ?_
      refine call_list_reprK ho hc hd hna (by simpa using hk.length_eq) (fun i y e => hk.item i y (by simpa using e)) (show X.A.in1.guards = some [] from hg) (fun b _ => Clear.nil b) (by show X.A.units + 1 + (PyData.depthAll ds + 1) < cLine; omega) (fun _ _ e => e) (fun h' u tk hk => ?_) hz'
      simp only [PyData.shown] at q
      exact ⟨_, _, rfl, ⟨.str (listText (PyData.shownAll ds)), H, I.kept hk, ⟨_, rfl⟩, q⟩⟩
end L2

/-! ### a def that is called where no repr is under way, and the law's own end -/
namespace L2
open PySem PySem.Spec PyProof.Rows
structure FnOkG (P : Program) (w : World) (K : PySem.W.Frag) (mg : Str → Option Value) (base : Heap) (CX : CXT) (k : Nat) (f : Addr) (fd : FuncData) (ps : List Str) (sp : Sp) : Prop where
  len : ∀ vs H Q E, sp vs H Q E → vs.length = ps.length
  run : ∀ (A : Around) (outer : List Env) (s : Shared) (H : Hp) (args : Args) (us : List Value) (vs : List V) (Q : VK) (E : XK), A.guards = some [] → Room k A → Env0 P w K mg base A outer s H → BindsTo s fd args (ps.zip us) → Vals vs us → sp vs H Q E →
    codeAny (model P w) A (.call (.ref f) args) (CR CX outer P w H s Q E) s
theorem fn_ofG {CX : CXT} {P : Program} {w : World} {K : PySem.W.Frag} {mg : Str → Option Value} {base : Heap} {k : Nat} {f : Addr} {name qual : Str} {params : Arguments} {body : List Stmt} {scope : Scope} {dV kV doc pm cdv ct oc : Value} {an od : Option Addr}
    {osl : Array (Option Value)} {N ps : List Str} {sp : Sp} (lk : K.lookup f = some ⟨oc, od, .func (PySem.W.fnOf name qual params body scope dV kV doc pm an cdv ct), osl⟩) (hcd : PySem.W.codeIn K cdv qual = true) (S : FnScope N ps scope)
    (len : ∀ vs H Q E, sp vs H Q E → vs.length = ps.length)
    (hbody : ∀ (A : Around) (outer : List Env) (s : Shared) (H : Hp) (vs : List V) (Q : VK) (E : XK), A.guards = some [] → Room k (A.deeper (envOfC qual scope s.heap.objs.size f cdv)) → sp vs H Q E →
      ∃ t, PSs (cxOf CX P w K mg base N qual scope f cdv A outer s H E) body t ∧ t { nx := fun _ H' => Q .non H', rt := Q } (start N vs) H) :
    FnOkG P w K mg base CX (k + 1) f (PySem.W.fnOf name qual params body scope dV kV doc pm an cdv ct) ps sp := by
  refine ⟨len, fun A outer s H args us vs Q E hgd hr e0 hb r hsp => ?_⟩
  have hl := len _ _ _ _ hsp
  have KX : K.In s.heap := e0.mod.kin.keeps fun b o e => (e0.bs b o e).1
  have lim : s.heap.NoLimit := e0.mod.nolimit.keeps fun b o e => (e0.bs b o e).1
  have hkind : ∀ y ∈ ps.zip us, scope.names.lookup y.1 = some .local ∨ (scope.names.lookup y.1 = some .cell ∧ ((cellsFrom (s.heap.objs.size + 1) scope.names []).lookup y.1).isSome = true) := fun ⟨n, v⟩ hy => by
    rcases S.par n (List.of_mem_zip hy).1 with q | q
    · exact .inl q
    · exact .inr ⟨q, PySem.W.cellsFrom_some _ _ _ (.inl q)⟩
  refine codeAny_call_function hr.depth (KX _ _ lk) rfl S.co S.gen rfl (PySem.W.codeRec_of KX hcd) (hb _ _ _ _ ?_)
  refine wpAny_newFunctionEnv_cells S.kind hkind fun env he s1 x => ?_
  subst he
  refine ⟨lim.keeps x.toInCall.keep, codeAny_func ?_⟩
  obtain ⟨t, ht, hq⟩ := hbody A outer s H vs Q E hgd (hr.deeper _) hsp
  have I : Inv (cxOf CX P w K mg base N qual scope f cdv A outer s H E) [] (start N vs) H s1 := inv_start S hr.hd e0 hl r x
  refine wpAny_mono (ht.run [] s1 (start N vs) H _ I hq) (fun fl s' hs => ?_) fun e s' hs => hs
  have fin : ∀ {σ' : St} {H' : Hp} {v : V} {u : Value}, Inv (cxOf CX P w K mg base N qual scope f cdv A outer s H E) [] σ' H' s' → RelV v u → Q v H' → CE outer P w H s Q u s' :=
    fun {σ' H' v u} J rv q => ⟨v, H', J.os, J.bare, J.base, J.hok, rv, q⟩
  cases fl with
  | ret u =>
    obtain ⟨v, σ', H', J, rv, q⟩ := hs
    exact fin J rv q
  | next =>
    obtain ⟨σ', H', J, q⟩ := hs
    exact fin (v := V.non) (u := Value.none) J rfl q
  | brk =>
    obtain ⟨_, _, _, q⟩ := hs
    exact False.elim q
  | cont =>
    obtain ⟨_, _, _, q⟩ := hs
    exact False.elim q
theorem Fun.okG {P : Program} {w : World} {K : PySem.W.Frag} {mg : Str → Option Value} {base : Heap} {x qual : Str} {st : Stmt} {f : Addr} {fd : FuncData} {N ps : List Str} {k : Nat} {sp : Sp} (F : Fun K x qual st f fd) (S : FnScope N ps (defScope st)) (len : ∀ vs H Q E, sp vs H Q E → vs.length = ps.length)
    (hbody : ∀ (cdv : Value) (A : Around) (outer : List Env) (s : Shared) (H : Hp) (vs : List V) (Q : VK) (E : XK), A.guards = some [] → Room k (A.deeper (envOfC qual (defScope st) s.heap.objs.size f cdv)) → sp vs H Q E →
      ∃ t, PSs (cxOf CX0 P w K mg base N qual (defScope st) f cdv A outer s H E).nox (defBody st) t ∧ t { nx := fun _ H' => Q .non H', rt := Q } (start N vs) H) : FnOkG P w K mg base CX0 (k + 1) f fd ps sp := by
  obtain ⟨oc, od, kV, doc, pm, an, cdv, ct, osl, rfl, lk, hcd⟩ := F.ex
  refine fn_ofG lk hcd S len fun A outer s H vs Q E hgd hr hsp => ?_
  obtain ⟨t, h, q⟩ := hbody cdv A outer s H vs Q E hgd hr hsp
  exact ⟨t, h.nox, q⟩
theorem law_callG {P : Program} {w : World} {K : PySem.W.Frag} {mg mb : Str → Option Value} {CX : CXT} {k : Nat} {fa a : Addr} {fd : FuncData} {x : Str} {sp : Sp} {s₁ : Shared} {vs : List Value} {ns : List Int}
    (KX : K.In s₁.heap) (hns : s₁.heap.Ns mainGlobals mg) (hb : s₁.heap.Ns builtinsNs mb) (hbb : ∀ x : Str, x ≠ "__name__" → mb x = bootBuiltins x) (hlim : s₁.heap.NoLimit) (hg : s₁.gens = #[])
    (ha : s₁.heap.get? a = some { cls := .type "list", data := .seq vs.toArray }) (hi : IntsAre vs ns) (hl : ns.length ≤ sizeLine) (hr : Room k callerA)
    (F : ∀ base : Heap, K.In base → base.Ns mainGlobals mg → FnOkG P w K mg base CX k fa fd [x] sp) (hbind : ∀ (s : Shared) (u : Value), BindsTo s fd ⟨[u], []⟩ [(x, u)])
    (hsp : ∀ H : Hp, Only H → SqL K H a (ns.map V.int) → sp [.ref a] H (fun v _ => v = .bl true) fun _ _ _ => False)
    (hCX : ∀ H e s', CX [] H s₁ (fun _ _ _ => False) e s' → False) :
    codeAny (model P w) callerA (.call (.ref fa) ⟨[.ref a], []⟩) (fun r s' => r = .ok (.ret (.bool true)) ∧ OldK s₁.heap s'.heap ∧ s'.os = s₁.os ∧ AllBare s'.gens) s₁ := by
  have rv := vals_ints hi
  have lenV := hi.length
  -- from an abstract heap in which nothing but the script may be tracked
  have core : ∀ H : Hp, Only H → SqL K H a (ns.map V.int) → HOk P w H s₁.heap → (∀ b, H b ≠ none → b = a) → (H a ≠ none → K.lookup a = none) →
      codeAny (model P w) callerA (.call (.ref fa) ⟨[.ref a], []⟩) (fun r s' => r = .ok (.ret (.bool true)) ∧ OldK s₁.heap s'.heap ∧ s'.os = s₁.os ∧ AllBare s'.gens) s₁ := by
    intro H hO hS hok hA hK
    have base_of : ∀ {b : Addr} {o : Obj}, s₁.heap.get? b = some o → H b = none → (hidT s₁.heap H).get? b = some o := fun e n => hidT_get e n
    have noA : ∀ {b : Addr} {o : Obj} {es : Array DictEntry} {ep : Nat}, s₁.heap.get? b = some o → o.data = .dict es ep → H b = none := fun {b o es ep} e d => by
      cases q : H b with
      | none => rfl
      | some u =>
        have e' : b = a := hA b (by rw [q]; simp)
        subst e'
        rw [ha] at e; cases e
        have d' : Data.seq vs.toArray _ = Data.dict es ep := d
        cases d'
    have nsK : ∀ {b : Addr} {m : Str → Option Value}, s₁.heap.Ns b m → (hidT s₁.heap H).Ns b m := fun {b m} ⟨o, es, ep, e, d, r⟩ => ⟨o, es, ep, base_of e (noA e d), d, r⟩
    have hKb : K.In (hidT s₁.heap H) := fun b o e => base_of (KX b o e) (by
      cases q : H b with
      | none => rfl
      | some u =>
        have e' : b = a := hA b (by rw [q]; simp)
        subst e'
        rw [hK (by rw [q]; simp)] at e; cases e)
    have hM : Mod K mg (hidT s₁.heap H) := ⟨hKb, nsK hns, ⟨mb, nsK hb, hbb⟩, let ⟨mc, h1, h2⟩ := hlim; ⟨mc, nsK h1, h2⟩⟩
    have e0 : Env0 P w K mg (hidT s₁.heap H) callerA [] s₁ H := ⟨rfl, hM, fun b o e => of_hidT e, Nat.le_of_eq (hidT_size _ _), trivial, fun b hb => absurd (show b ∈ ([] : List Addr) from hb) (by simp), hok, .of_eq hg⟩
    refine codeAny_mono ((F _ hKb (nsK hns)).run callerA [] s₁ H ⟨[.ref a], []⟩ [.ref a] [.ref a] _ _ rfl hr e0 (hbind s₁ (.ref a)) (.cons rfl .nil) (hsp H hO hS)) fun r s' h => ?_
    cases r with
    | error e => exact (hCX H e s' h).elim
    | ok fl =>
      cases fl with
      | next => exact False.elim h
      | brk => exact False.elim h
      | cont => exact False.elim h
      | ret u =>
        obtain ⟨v, H', os, bare, un, hok', r', q⟩ := h
        have q' : v = .bl true := q
        subst q'
        obtain rfl : u = Value.bool true := r'
        refine ⟨rfl, OldK.of_keep fun b o e => ?_, os, bare⟩
        cases q : H b with
        | none => exact un.keep b o e q (by intro z; exact absurd (show b ∈ ([] : List Addr) from z) (by simp)) (by simp)
        | some u =>
          rcases hO b with z | ⟨ob, xs, z⟩
          · rw [q] at z; cases z
          · have z2 := un.frzs b ob _ z
            obtain ⟨e1, _⟩ := hok b _ z
            obtain ⟨e2, _⟩ := hok' b _ z2
            rw [e] at e1; cases e1
            exact e2
  cases hk : K.lookup a with
  | some o =>
    -- the script is one of the module's own objects
    have e := KX a o hk
    rw [ha] at e
    cases e
    refine core (fun _ => none) (fun _ => .inl rfl) (.inr ⟨_, vs.toArray, _, hk, rfl, rfl, rfl, by rw [List.size_toArray, lenV]; exact hl, by simpa using rv⟩) (fun b u z => by have z' : (none : Option HO) = some u := z; cases z') (fun b z => absurd rfl z) fun z => absurd rfl z
  | none =>
    refine core (fun b => if b = a then some (.frz { cls := .type "list", data := .seq vs.toArray } (.lst (ns.map V.int))) else none) (fun b => ?_) (.inl (.inr ⟨{ cls := .type "list", data := .seq vs.toArray }, if_pos rfl⟩)) (fun b u z => ?_) (fun b z => ?_) fun _ => hk
    · by_cases hb : b = a
      · exact .inr ⟨_, _, if_pos hb⟩
      · exact .inl (if_neg hb)
    · by_cases hb : b = a
      · have z' := (if_pos hb).symm.trans z
        cases z'
        subst hb
        exact ⟨ha, by rw [List.length_map]; exact hl, vs, _, rv, ha⟩
      · have z' := (if_neg hb).symm.trans z
        cases z'
    · by_cases hb : b = a
      · exact hb
      · exact absurd (if_neg hb) z
theorem walk_ofG {l : PySem.W.OpenLaw} {n k : Nat} {q : Program} {loose : List Str} {XP : (Str → Option Value) → Heap → Prop} {YP : World → Heap → Prop} {d : DefRec} {K : Params → PySem.W.Frag} {CX : World → CXT} {sp : World → Sp} {x : Str}
    (hn : l.most = some n) (hn2 : n ≤ sizeLine) (hdf : d.params.defaults = []) (hr : Room k callerA)
    (hY : ∀ (w : World) (h : Heap), YP w h → (K w.params).In h)
    (F : ∀ (w : World) (mg : Str → Option Value) (fa : Addr) (h : Heap), (K w.params).In h → h.Ns mainGlobals mg → mg d.name = some (.ref fa) →
      ∃ fd : FuncData, (∀ (s : Shared) (u : Value), BindsTo s fd ⟨[u], []⟩ [(x, u)]) ∧
        ∀ base : Heap, (K w.params).In base → base.Ns mainGlobals mg → FnOkG l.prog w (K w.params) mg base (CX w) k fa fd [x] (sp w))
    (hsp : ∀ (w : World) (H : Hp) (a : Addr) (ns : List Int), ns.length ≤ n → Only H → SqL (K w.params) H a (ns.map V.int) → sp w [.ref a] H (fun v _ => v = .bl true) fun _ _ _ => False)
    (hCX : ∀ (w : World) (H : Hp) (s : Shared) (e : Value) (s' : Shared), CX w [] H s (fun _ _ _ => False) e s' → False) :
    PySem.W.WalkO q loose XP YP l.row.toRowW d [] (fun f vs => PySem.call f vs) := by
  refine Att.attach_call hn hdf fun w s₀ s₁ mg mb fa o pm cd doc a vs ns G Y ho hd hcd hmg hobj hints hlen hg => ?_
  have KX := hY w _ Y
  obtain ⟨fd, hb, hF⟩ := F w mg fa _ KX G.T.g hmg
  exact law_callG KX G.T.g G.T.b G.T.builtins G.T.nolimit hg hobj hints (Nat.le_trans hlen hn2) hr hF hb (fun H hO hS => hsp w H a ns hlen hO hS) fun H e s' => hCX w H s₁ e s'
end L2
/-! ### own __add__ and __radd__ -/
namespace PySem
namespace LwX
open PySem.W PySem.Calls
section
variable {prog : Program} {w : World} {A : Around} {E : Value → Shared → Prop} {s : Shared} {K : Frag} {x C f : Addr} {ox : Obj} {od : Option Obj} {T : String}
/-- x + b, b of a built-in type -/
theorem add_own {b : Value} {fo ro rc : Option Value} {Q : Value → Shared → Prop} (X : K.In s.heap) (I : InstAt s.heap x ox C od) (hb : ∀ M, Looks M s.heap (typeOf b) (.type T)) (hc : selfFirst K C = true)
    (hs : findIn K (.ref C) "__add__" = some (some (.ref f))) (hf : isFn K (.ref f) = true) (hr : findIn K (.ref C) "__radd__" = some rc) (hp : rc = none ∨ ∃ g : Addr, rc = some (.ref g))
    (h1 : findIn K (.type T) "__add__" = some fo) (h2 : findIn K (.type T) "__radd__" = some ro) (hsub : subIn K (.type T) (.ref C) = some false)
    (h : wpAny (model prog w) A (call (.ref f) [.ref x, b]) (CmpBack Q) E s) : wpAny (model prog w) A (binaryOp .Add (.ref x) b) Q E s := by
  obtain ⟨cd, rest, hcd, hm⟩ := ksp_first hc
  have one := ksp_try X I hs hf h
  obtain ⟨hh, g, d, tt, os⟩ := s
  have L1 : Looks (model prog w) hh (typeOf (.ref x)) (.ref C) := I.type
  have L2 : Looks (model prog w) hh (typeOf b) (.type T) := hb _
  have L3 : Looks (model prog w) hh (fillsNumberSlot (.ref C) "add") true := fills_K X hcd hm hs
  have L4 : Looks (model prog w) hh (fillsNumberSlot (.type T) "add") ((fo.isSome && !isSeqSlot fo) || (ro.isSome && !isSeqSlot ro)) := ksp_fillsT X h1 h2
  have L5 : Looks (model prog w) hh (isSubtype (.type T) (.ref C)) false := looks_subIn X hsub
  have L6 : Looks (model prog w) hh (numberSlotInPython (.ref C) "add") true := ksp_inPy X hs hr hp
  have L7 : Looks (model prog w) hh (numberSlotInPython (.type T) "add") false := Looks.of_pure rfl
  have L8 : Looks (model prog w) hh (typeLookup (.type T) (dunderR "add")) ro := looks_findIn X h2
  generalize ((fo.isSome && !isSeqSlot fo) || (ro.isSome && !isSeqSlot ro)) = right at L4
  have hne : (Value.ref C == Value.type T) = false := Bool.eq_false_iff.mpr fun q => by cases beq_iff_eq.mp q
  have hi : Operator.info .Add = ("+", "add") := rfl
  simp only [binaryOp, hi]
  refine wpAny_holding (wpAny_bind ?_)
  unfold binaryOp1
  refine wpAny_bind (L1.at (wpAny_bind (L2.at (wpAny_bind (L3.at ?_)))))
  simp only [hne, Bool.false_eq_true, if_false]
  cases right with
  | false =>
    ksp_lk
    refine wpAny_mono one (fun r s' hr' => ?_) fun _ _ e => e
    obtain ⟨v, rfl, hq⟩ := hr'
    ksp_lk
    exact hq
  | true =>
    ksp_lk
    refine wpAny_mono one (fun r s' hr' => ?_) fun _ _ e => e
    obtain ⟨v, rfl, hq⟩ := hr'
    ksp_lk
    exact hq
/-- x + y, both of the class at C -/
theorem add_same {y : Addr} {oy : Obj} {oyd : Option Obj} {Q : Value → Shared → Prop} (X : K.In s.heap) (I : InstAt s.heap x ox C od) (J : InstAt s.heap y oy C oyd) (hc : selfFirst K C = true)
    (hs : findIn K (.ref C) "__add__" = some (some (.ref f))) (hf : isFn K (.ref f) = true)
    (h : wpAny (model prog w) A (call (.ref f) [.ref x, .ref y]) (CmpBack Q) E s) : wpAny (model prog w) A (binaryOp .Add (.ref x) (.ref y)) Q E s := by
  obtain ⟨cd, rest, hcd, hm⟩ := ksp_first hc
  have one := ksp_try X I hs hf h
  obtain ⟨hh, g, d, tt, os⟩ := s
  have L1 : Looks (model prog w) hh (typeOf (.ref x)) (.ref C) := I.type
  have L2 : Looks (model prog w) hh (typeOf (.ref y)) (.ref C) := J.type
  have L3 : Looks (model prog w) hh (fillsNumberSlot (.ref C) "add") true := fills_K X hcd hm hs
  have hi : Operator.info .Add = ("+", "add") := rfl
  simp only [binaryOp, hi]
  refine wpAny_holding (wpAny_bind ?_)
  unfold binaryOp1
  refine wpAny_bind (L1.at (wpAny_bind (L2.at (wpAny_bind (L3.at ?_)))))
  simp only [beq_self_eq_true, if_true]
  ksp_lk
  refine wpAny_mono one (fun r s' hr' => ?_) fun _ _ e => e
  obtain ⟨v, rfl, hq⟩ := hr'
  ksp_lk
  exact hq
/-- a + x, a of a built-in type whose + is a sequence's -/
theorem radd_own {a : Value} {fa : Addr} {fo ro : Option Value} {Q : Value → Shared → Prop} (X : K.In s.heap) (I : InstAt s.heap x ox C od) (ha : ∀ M, Looks M s.heap (typeOf a) (.type T)) (hc : selfFirst K C = true)
    (hs0 : findIn K (.ref C) "__add__" = some (some (.ref fa))) (hs : findIn K (.ref C) "__radd__" = some (some (.ref f))) (hf : isFn K (.ref f) = true)
    (h1 : findIn K (.type T) "__add__" = some fo) (h2 : findIn K (.type T) "__radd__" = some ro) (hseq : ((fo.isSome && !isSeqSlot fo) || (ro.isSome && !isSeqSlot ro)) = false)
    (h : wpAny (model prog w) A (call (.ref f) [.ref x, a]) (CmpBack Q) E s) : wpAny (model prog w) A (binaryOp .Add a (.ref x)) Q E s := by
  obtain ⟨cd, rest, hcd, hm⟩ := ksp_first hc
  have one := ksp_try X I hs hf h
  obtain ⟨hh, g, d, tt, os⟩ := s
  have L1 : Looks (model prog w) hh (typeOf (.ref x)) (.ref C) := I.type
  have L2 : Looks (model prog w) hh (typeOf a) (.type T) := ha _
  have L3 : Looks (model prog w) hh (fillsNumberSlot (.ref C) "add") true := fills_K X hcd hm hs0
  have L4 : Looks (model prog w) hh (fillsNumberSlot (.type T) "add") false := by
    rw [← hseq]
    exact ksp_fillsT X h1 h2
  have hne : (Value.type T == Value.ref C) = false := Bool.eq_false_iff.mpr fun q => by cases beq_iff_eq.mp q
  have hi : Operator.info .Add = ("+", "add") := rfl
  simp only [binaryOp, hi]
  refine wpAny_holding (wpAny_bind ?_)
  unfold binaryOp1
  refine wpAny_bind (L2.at (wpAny_bind (L1.at (wpAny_bind (L4.at ?_)))))
  simp only [hne, Bool.false_eq_true, if_false]
  refine wpAny_bind (L3.at ?_)
  ksp_lk
  refine wpAny_mono one (fun r s' hr' => ?_) fun _ _ e => e
  obtain ⟨v, rfl, hq⟩ := hr'
  ksp_lk
  exact hq
end
end LwX
end PySem

/-! R2 -/
/-! ### enumerate over a tuple -/
namespace PySem
namespace LwX
open Sem (wp)
theorem meets_enumT (l : Addr) (items : Array Value) :
    Meets (Builtin.«enumerate.__new__» ⟨[.type "enumerate", .ref l], []⟩) (fun _ R s => s.heap.IsTuple l items ∧
      R (.ok (.ret (.ref (s.heap.push { cls := .type "tuple_iterator", data := .fields #[.ref l, .int 0 0] }).objs.size)))
        { s with heap := (s.heap.push { cls := .type "tuple_iterator", data := .fields #[.ref l, .int 0 0] }).push { cls := .type "enumerate", data := .fields #[.none, .bool false, .ref s.heap.objs.size, rawInt 0, .none, .none] } }) :=
  .of_wp fun prog w A R s h => by
    obtain ⟨hp, g, d, tk, os⟩ := s
    obtain ⟨hL, h⟩ := h
    have hsub := sub_enumerate
    have q1 : ∀ {A' : Around} {E : Value → Shared → Prop} {Q : Value → Shared → Prop}, Q (.ref hp.objs.size) ⟨hp.push { cls := .type "tuple_iterator", data := .fields #[.ref l, .int 0 0] }, g, d, tk, os⟩ → wpAny (model prog w) A' (pyIter (.ref l)) Q E ⟨hp, g, d, tk, os⟩ :=
      fun q => wpAny_pyIter_tuple (s := ⟨hp, g, d, tk, os⟩) hL q
    wp_walk using q1
    refine wpAny_stack_any fun st => wpAny_pure ?_
    split
    · rename_i c _ _ _ _ _
      cases (c == Value.type "enumerate") <;> (wp_walk using q1; exact ⟨_, rfl, h⟩)
    · wp_walk using q1
      exact ⟨_, rfl, h⟩
theorem call_enumT {prog : Program} {w : World} {A : Around} {E : Value → Shared → Prop} {s : Shared} {l : Addr} {items : Array Value} {Q : Value → Shared → Prop} (hL : s.heap.IsTuple l items)
    (h : ∀ h', IsEnum h' (s.heap.objs.size + 1) s.heap.objs.size 0 .none → h'.IsTupleIter s.heap.objs.size l 0 → h'.objs.size = s.heap.objs.size + 2 →
      (∀ b o, s.heap.get? b = some o → h'.get? b = some o) → Q (.ref (s.heap.objs.size + 1)) { s with heap := h' }) :
    wpAny (model prog w) A (call (.type "enumerate") [.ref l]) Q E s := by
  refine callType_new F.called_enumerate (by decide) (F.typeCall_enumerate_1 _) (F.newCall_enumerate_1 _) (fun obj => F.args_object_init_2 obj _) F.entry_enumerate_new (meets_enumT l items) ⟨hL, ?_⟩
  have hz : (s.heap.push { cls := .type "tuple_iterator", data := .fields #[.ref l, .int 0 0] }).objs.size = s.heap.objs.size + 1 := Heap.size_push ..
  show _ ∧ _
  rw [hz]
  have he : IsEnum ((s.heap.push { cls := .type "tuple_iterator", data := .fields #[.ref l, .int 0 0] }).push
      { cls := .type "enumerate", data := .fields #[.none, .bool false, .ref s.heap.objs.size, rawInt 0, .none, .none] }) (s.heap.objs.size + 1) s.heap.objs.size 0 .none := by
    have z := Heap.get?_push_size (s.heap.push { cls := .type "tuple_iterator", data := .fields #[.ref l, .int 0 0] })
      (o := { cls := .type "enumerate", data := .fields #[.none, .bool false, .ref s.heap.objs.size, rawInt 0, .none, .none] }) rfl
    rw [hz] at z
    exact z
  exact ⟨⟨_, he, rfl⟩, h _ he ⟨_, Heap.get?_push_of_some _ (Heap.get?_push_size _ rfl), rfl, rfl⟩ (by rw [Heap.size_push, hz]) fun b o x => Heap.get?_push_of_some _ (Heap.get?_push_of_some _ x)⟩
end LwX
end PySem
namespace L2
open PySem PySem.Spec PyProof.Rows
/-- the tuple at a, each item in a new pair -/
def IteT (K : PySem.W.Frag) (a : Addr) : It :=
  ⟨fun i H => ∃ (xs : List V) (x : V), SqT K H a xs ∧ xs[i]? = some x, fun i H v H' => ∃ T x, v = .ref T ∧ H T = none ∧ H' = upd H T (.tup [.int (i : Nat), x]) ∧ ∀ xs, SqT K H a xs → xs[i]? = some x, fun i H => ∃ xs : List V, SqT K H a xs ∧ xs.length = i⟩
theorem turn_enumT {P : Program} {w : World} {K : PySem.W.Frag} {elts : List Expr} {kk : Nat} {tpos : Pos} (a e it : Addr) :
    Turn P w K (.Tuple elts kk tpos) (IteT K a) [e, it] e (fun i h => (∃ old, IsEnum h e it ((i : Nat) : Int) old) ∧ h.IsTupleIter it a i ∧ e ≠ it) where
  mem := by simp
  obj := fun i h st b hb => by
    obtain ⟨⟨old, he⟩, ⟨o, ho, hc, hd⟩, _⟩ := st
    have e' : b = e ∨ b = it := by simpa using hb
    rcases e' with z | z
    · rw [z]; exact ⟨_, he, fun v q => nomatch q⟩
    · rw [z]; exact ⟨o, ho, fun v q => by rw [hd] at q; cases q⟩
  keep := fun i h h' st k => let ⟨⟨old, he⟩, hi, hne⟩ := st; ⟨⟨old, k e (by simp) _ he⟩, hi.at fun o q => k it (by simp) o q, hne⟩
  item := by
    intro X hP hw hK hc i pins s σ H E I hf st hg
    subst hP hw hK
    obtain ⟨⟨old, he⟩, hit, hne⟩ := st
    obtain ⟨xs, x, hq, hx⟩ := hg
    obtain ⟨its, rv, p, hz⟩ := I.tuple hq
    obtain ⟨u, hu, ru⟩ := rv.get hx
    have p' : s.heap.IsTuple a its.toArray := p
    have hel : e < s.heap.objs.size := Heap.lt_size he
    have hil : it < s.heap.objs.size := by obtain ⟨_, q, _⟩ := hit; exact Heap.lt_size q
    have hai : a ≠ it := by
      rintro rfl
      obtain ⟨o1, e1, c1, _⟩ := p'
      obtain ⟨o2, e2, c2, _⟩ := hit
      rw [e1] at e2
      cases e2
      rw [c1] at c2
      exact absurd (Value.type.inj c2) (by decide)
    have hae : e ∉ [it, a] := by
      intro z
      rcases List.mem_cons.mp z with z | z
      · exact hne z
      · rcases List.mem_cons.mp z with z | z
        · obtain ⟨o1, e1, c1, _⟩ := p'
          rw [← z, he] at e1
          cases e1
          exact absurd (Value.type.inj c1) (by decide)
        · cases z
    have hlt : i < its.toArray.size := by
      have z := (List.getElem?_eq_some_iff.mp hu).1
      simpa using z
    refine wpAny_pyNext_enum_itemD (Draws.tuple (A := X.A.in1) (show X.A.in1.handled = none from I.ok.hd hc) it a hai its.toArray) he ⟨hit, p'⟩ hlt hne hae fun x' h' tk hP ho hst hT hsz hk => ?_
    have ex : x' = u := by
      have z : its[i]? = some x' := by simpa using hP
      rw [hu] at z
      exact (Option.some.inj z).symm
    subst ex
    refine ⟨_, rfl, wpAny_letOwnedTupleGo_enum (s := { s with heap := h', toks := tk + 1 }) ho fun h'' he' sb => ?_⟩
    have hT2 : h''.get? s.heap.objs.size = some { cls := .type "tuple", data := .seq #[.int i tk, x'] } := (sb.2 _ (Nat.ne_of_gt hel)).trans hT
    have new : ObjOk X.prog X.w (upd H s.heap.objs.size (.tup [.int (i : Nat), x])) h'' s.heap.objs.size (.tup [.int (i : Nat), x]) :=
      ⟨by show 2 ≤ sizeLine; decide, [.int i tk, x'], .cons ⟨_, rfl⟩ (.cons ru .nil), ⟨_, hT2, rfl, _, rfl⟩⟩
    have I1 : Inv X pins σ (upd H s.heap.objs.size (.tup [.int (i : Nat), x])) { s with heap := h'', toks := tk + 1 } :=
      I.turnedNew (ch := [e, it]) (fun b ob hb q => (sb.2 b (fun z => hb (by simp [z]))).trans (hk b ob (fun z => hb (by simp [z])) (fun z => hb (by simp [z])) q)) hf (Nat.le_refl _) new
    refine ⟨.ref s.heap.objs.size, _, I1, rfl, ⟨_, x, rfl, I.hok.fresh (Nat.le_refl _), rfl, fun ys hy => by rw [I.tuple_inj hy hq]; exact hx⟩, ⟨⟨x', ?_⟩, hst.1.at fun o q => (sb.2 it (Ne.symm hne)).trans q, hne⟩, fun b hb => ?_⟩
    · have e1 : ((i + 1 : Nat) : Int) = (i : Int) + 1 := by omega
      rw [e1]; exact he'
    · have hb' : b < s.heap.objs.size := by
        have e' : b = e ∨ b = it := by simpa using hb
        rcases e' with z | z
        · rw [z]; exact hel
        · rw [z]; exact hil
      rw [upd_ne (Nat.ne_of_lt hb')]
      exact (hf b hb).1
  done := by
    intro X hP hw hK hc i pins s σ H E I hf st hg
    subst hP hw hK
    obtain ⟨⟨old, he⟩, hit, hne⟩ := st
    obtain ⟨xs, hq, hx⟩ := hg
    obtain ⟨its, rv, p, hz⟩ := I.tuple hq
    have p' : s.heap.IsTuple a its.toArray := p
    obtain ⟨f0, f1, f2, f3, f4, f5⟩ := hf it (by simp)
    have hl := rv.length
    have hai : a ≠ it := by
      rintro rfl
      obtain ⟨o1, e1, c1, _⟩ := p'
      obtain ⟨o2, e2, c2, _⟩ := hit
      rw [e1] at e2
      cases e2
      rw [c1] at c2
      exact absurd (Value.type.inj c2) (by decide)
    have en : i = its.toArray.size := by simp; omega
    rw [en] at hit
    exact wpAny_pyNext_enum_endD (Draws.tuple (A := X.A.in1) (show X.A.in1.handled = none from I.ok.hd hc) it a hai its.toArray) he ⟨hit, p'⟩ fun h' eb => ⟨rfl, I.turned (t' := s.toks) (fun b o hb q => eb b o hb q) f0 f1 f3 f4 f5⟩
  self := fun A i s Q E st h => let ⟨⟨_, he⟩, _⟩ := st; wpAny_pyIter_enum he h
def iEnumT (K : PySem.W.Frag) (ta : TA) : TI := fun σ H R => ta σ H fun vs H1 => ∃ a xs, vs = [.ref a] ∧ SqT K H1 a xs ∧ R (IteT K a) H1
theorem pi_enumT {X : Cx} {e : Expr} {ta : TA} {p pos tpos : Pos} {elts : List Expr} {kk : Nat} (hg : Gl X "enumerate") (hm : X.mg "enumerate" = none) (ha : PA X [e] ta) (hs : starEach [e] X.env = [(false, eval e X.env)] := by rfl) :
    PI X (.Tuple elts kk tpos) (.Call (.Name "enumerate" p) [e] [] pos) (iEnumT X.K ta) := by
  refine ⟨fun pins s σ H R I h => ?_⟩
  refine Call_ (ld_blt I hg hm boot_enumerate (PyProof.Rows.callWith_type1 (thn (ha.run pos pins s σ H _ I h) fun us s1 ⟨vs, H1, I1, r1, q1⟩ => ?_) hs rfl))
  obtain ⟨a, xs, ex, hq, q⟩ := q1
  subst ex
  cases r1 with
  | cons r rr =>
    cases rr
    cases r
    obtain ⟨its, rv, p', hz⟩ := I1.tuple hq
    refine PySem.LwX.call_enumT (items := its.toArray) p' fun h' he hit hsz hk => wpAny_pyIter_enum he ?_
    have I2 : Inv X pins σ H1 { s1 with heap := h' } := I1.kept (t' := s1.toks) hk
    refine ⟨s1.heap.objs.size + 1, [s1.heap.objs.size + 1, s1.heap.objs.size], _, _, H1, rfl, I2, turn_enumT a (s1.heap.objs.size + 1) s1.heap.objs.size, ⟨⟨.none, he⟩, hit, Nat.succ_ne_self _⟩, fun b hb => ?_, q⟩
    have e' : b = s1.heap.objs.size + 1 ∨ b = s1.heap.objs.size := by simpa using hb
    have hle : s1.heap.objs.size ≤ b := by
      rcases e' with z | z
      · rw [z]; exact Nat.le_add_right _ _
      · rw [z]; exact Nat.le_refl _
    exact I1.fpOk hle (I1.hok.fresh hle)
end L2

/-! R3 -/
/-! ### star calls of a class, own operators, static methods, raising, text * int -/
namespace L2
open PySem PySem.Spec PyProof.Rows StX
/-- the facts of a class with its own + from both sides -/
structure AddC (K : PySem.W.Frag) (C f g : Addr) : Prop where
  hc : PySem.W.selfFirst K C = true
  hs : PySem.W.findIn K (.ref C) "__add__" = some (some (.ref f))
  hf : PySem.W.isFn K (.ref f) = true
  hr : PySem.W.findIn K (.ref C) "__radd__" = some (some (.ref g))
  hg : PySem.W.isFn K (.ref g) = true
/-- what is asked of a built-in type beside it -/
structure AddT (K : PySem.W.Frag) (C : Addr) (T : String) : Prop where
  ex : ∃ fo ro, PySem.W.findIn K (.type T) "__add__" = some fo ∧ PySem.W.findIn K (.type T) "__radd__" = some ro
  sub : PySem.W.subIn K (.type T) (.ref C) = some false
structure RaddT (K : PySem.W.Frag) (T : String) : Prop where
  ex : ∃ fo ro, PySem.W.findIn K (.type T) "__add__" = some fo ∧ PySem.W.findIn K (.type T) "__radd__" = some ro ∧ ((fo.isSome && !isSeqSlot fo) || (ro.isSome && !isSeqSlot ro)) = false
def rAddT (K : PySem.W.Frag) (C : Addr) (sp : Sp) (E : XK) : R2 := fun x y H Q => ∃ (a dx : Addr) (fs : List (Str × V)) (T : String), x = .ref a ∧ H a = some (.ins C dx fs) ∧ TyX K H y (.type T) ∧ AddT K C T ∧ sp [.ref a, y] H (fun v H' => (∃ p, v = .ref p) ∧ Q v H') E
def rAddS (C : Addr) (sp : Sp) (E : XK) : R2 := fun x y H Q => ∃ (a b dx dy : Addr) (fs gs : List (Str × V)), x = .ref a ∧ y = .ref b ∧ H a = some (.ins C dx fs) ∧ H b = some (.ins C dy gs) ∧ sp [.ref a, .ref b] H (fun v H' => (∃ p, v = .ref p) ∧ Q v H') E
def rRaddT (K : PySem.W.Frag) (C : Addr) (sp : Sp) (E : XK) : R2 := fun x y H Q => ∃ (a dx : Addr) (fs : List (Str × V)) (T : String), y = .ref a ∧ H a = some (.ins C dx fs) ∧ TyX K H x (.type T) ∧ RaddT K T ∧ sp [.ref a, x] H (fun v H' => (∃ p, v = .ref p) ∧ Q v H') E
section
variable {X : Cx} {CX : CXT} {k : Nat} {f g C : Addr} {fd : FuncData} {ps : List Str} {sp : Sp} {E : XK} {x : Str} {e : Expr} {es : List Expr} {te : TE} {t : TA} {p sp_ pos : Pos}
theorem back_ref {pins : List (Addr × Obj)} {σ : St} {Q : VK} {u : Value} {s' : Shared} (h : EP X pins σ (fun v H' => (∃ p, v = .ref p) ∧ Q v H') u s') : PySem.W.CmpBack (fun u s' => EP X pins σ Q u s') u s' := by
  obtain ⟨v, H', I, r, ⟨p, rfl⟩, q⟩ := h
  cases (show u = Value.ref p from r)
  exact ⟨V.ref p, H', I, rfl, q⟩
theorem op_addT (A : AddC X.K C f g) (F : FnOk X.prog X.w X.K X.mg X.base CX k f fd ps sp) (hr : Room k X.A) (hb : Binds X.K fd ps []) (hx : Passes CX X E) : OpR X (binaryOp .Add) (rAddT X.K C sp E) := by
  intro pins s σ H x y v u Q I rx ry h
  obtain ⟨a, dx, fs, T, rfl, ha, ty, ⟨⟨fo, ro, h1, h2⟩, hsub⟩, q⟩ := h
  cases (show v = Value.ref a from rx)
  obtain ⟨P, Z, pz, hne⟩ := kit_of I ry ty
  obtain ⟨mA, O, _⟩ := ins_get I.hok ha
  obtain ⟨od, J, _⟩ := O.look
  refine PySem.LwX.add_own I.kIn J (fun M => Z.ty M _ I.kIn pz) A.hc A.hs A.hf A.hr (.inr ⟨_, rfl⟩) h1 h2 hsub ?_
  exact thn (run_fn (us := [.ref a, u]) (vs := [.ref a, y]) F hr hb .nil hx I (.cons rfl (.cons ry .nil)) q) fun _ _ z => back_ref z
theorem op_addS (A : AddC X.K C f g) (F : FnOk X.prog X.w X.K X.mg X.base CX k f fd ps sp) (hr : Room k X.A) (hb : Binds X.K fd ps []) (hx : Passes CX X E) : OpR X (binaryOp .Add) (rAddS C sp E) := by
  intro pins s σ H x y v u Q I rx ry h
  obtain ⟨a, b, dx, dy, fs, gs, rfl, rfl, ha, hb', q⟩ := h
  cases (show v = Value.ref a from rx)
  cases (show u = Value.ref b from ry)
  obtain ⟨mA, O, _⟩ := ins_get I.hok ha
  obtain ⟨od, J, _⟩ := O.look
  obtain ⟨mB, O2, _⟩ := ins_get I.hok hb'
  obtain ⟨od2, J2, _⟩ := O2.look
  refine PySem.LwX.add_same I.kIn J J2 A.hc A.hs A.hf ?_
  exact thn (run_fn (us := [.ref a, .ref b]) (vs := [.ref a, .ref b]) F hr hb .nil hx I (.cons rfl (.cons rfl .nil)) q) fun _ _ z => back_ref z
theorem op_raddT (A : AddC X.K C f g) (F : FnOk X.prog X.w X.K X.mg X.base CX k g fd ps sp) (hr : Room k X.A) (hb : Binds X.K fd ps []) (hx : Passes CX X E) : OpR X (binaryOp .Add) (rRaddT X.K C sp E) := by
  intro pins s σ H x y v u Q I rx ry h
  obtain ⟨a, dx, fs, T, rfl, ha, ty, ⟨fo, ro, h1, h2, h3⟩, q⟩ := h
  cases (show u = Value.ref a from ry)
  obtain ⟨P, Z, pz, hne⟩ := kit_of I rx ty
  obtain ⟨mA, O, _⟩ := ins_get I.hok ha
  obtain ⟨od, J, _⟩ := O.look
  refine PySem.LwX.radd_own I.kIn J (fun M => Z.ty M _ I.kIn pz) A.hc A.hs A.hr A.hg h1 h2 h3 ?_
  exact thn (run_fn (us := [.ref a, v]) (vs := [.ref a, x]) F hr hb .nil hx I (.cons rfl (.cons rx .nil)) q) fun _ _ z => back_ref z
/-- C(*y) -/
theorem pe_makeS1 (M : Mk X.K C f) (F : FnR X.prog X.w X.K X.mg X.base CX k f sp) (hr : Room (k + 1) X.A) (hg : Gl X x) (hm : X.mg x = some (.ref C)) (hx : Passes CX X E) (he : PE X e te) (hd : (x == ("__debug__" : Str)) = false := by decide)
    (hst : starEach [.Starred e sp_] X.env = [(true, eval e X.env)] := by rfl) :
    PE X (.Call (.Name x p) [.Starred e sp_] [] pos) (fun σ H Q => te σ H fun y H1 => ∃ a xs, y = V.ref a ∧ (SqT X.K H1 a xs ∨ SqL X.K H1 a xs) ∧ ∀ x dx, H1 x = Option.none → H1 dx = Option.none → dx ≠ x →
      sp (V.ref x :: xs) (upd (upd H1 dx (.own x)) x (.ins C dx [])) (fun v H2 => v = .non ∧ Q (.ref x) H2) E) := by
  refine ⟨fun pins s σ H Q I h => ?_⟩
  refine wpAny_Call_Name_kw (ld_glob I hg hm ?_ hd)
  refine PySem.W.callWith_S (h₀ := X.base) I.ok.mod.kin M.kp (thn (he.run pins s σ H _ I h) fun v s1 ⟨y, H1, I1, ry, a, xs, ey, hxs, q⟩ => ?_) hst
  subst ey
  obtain rfl : v = Value.ref a := ry
  exact star_any I1 hxs fun us s2 I2 rv => ⟨I2.kIn, run_makeR M F hr hx I2 rv q⟩
/-- C(e, .., *y, ..) -/
theorem pe_makeS2 (M : Mk X.K C f) (F : FnR X.prog X.w X.K X.mg X.base CX k f sp) (hr : Room (k + 1) X.A) (hg : Gl X x) (hm : X.mg x = some (.ref C)) (hx : Passes CX X E) (ha : PA X (e :: es) t) (hd : (x == ("__debug__" : Str)) = false := by decide)
    (he : starEach (e :: es) X.env = (false, eval e X.env) :: starEach es X.env := by rfl) (hst : (backTo pos (starEach es X.env)).any (·.1) = true := by rfl) : PE X (.Call (.Name x p) (e :: es) [] pos) (tMakeR C sp E t) := by
  refine ⟨fun pins s σ H Q I h => ?_⟩
  refine wpAny_Call_Name_kw (ld_glob I hg hm ?_ hd)
  refine PySem.W.callWith_S2 (h₀ := X.base) I.ok.mod.kin M.kp (thn (ha.run pos pins s σ H _ I h) fun us s1 ⟨vs, H1, I1, r, q⟩ => ⟨I1.kIn, ?_⟩) he hst
  exact run_makeR M F hr hx I1 r q
/-- C() -/
theorem pe_makeR0 (M : Mk X.K C f) (F : FnR X.prog X.w X.K X.mg X.base CX k f sp) (hr : Room (k + 1) X.A) (hg : Gl X x) (hm : X.mg x = some (.ref C)) (hx : Passes CX X E) (hd : (x == ("__debug__" : Str)) = false := by decide) : PE X (.Call (.Name x p) [] [] pos) (tMakeR C sp E tNil) := by
  refine ⟨fun pins s σ H Q I h => ?_⟩
  refine wpAny_Call_Name_kw (ld_glob I hg hm ?_ hd)
  exact PySem.W.callWith_K0 I.kIn M.kp (run_makeR (us := []) M F hr hx I .nil h)
end
/-! ### raising an own error with an __init__ of its own -/
def tMkX (C : Addr) (sp : Sp) (ta : TA) : St → Hp → XK → Prop := fun σ H Q => ta σ H fun vs H1 => vs.length ≤ 1000 ∧ ∀ a, H1 a = none → sp (.ref a :: vs) (upd H1 a (exo a C none))
  (fun v H2 => v = .non ∧ ∃ (d : Addr) (fs : List (Str × V)), H2 a = some (exo a C (some d)) ∧ H2 d = some (exd d fs) ∧ H1 d = none ∧ Q (.ref C) (some d) (upd (del H2 a) d (.xd fs))) (fun _ _ _ => False)
section
variable {X : Cx} {e : Expr} {es : List Expr} {ta : TA} {p pos : Pos}
theorem pmk_G {CX : CXT} {x : Str} {C fI : Addr} {k : Nat} {fd : FuncData} {ps : List Str} {sp : Sp} (T : OexG X.K C fI)
    (F1 : FnOk X.prog X.w X.K X.mg X.base CX k fI fd ps sp) (hr : Room (k + 1) X.A) (hb : Binds X.K fd ps []) (hx : Passes CX X (fun _ _ _ => False)) (hg : Gl X x) (hm : X.mg x = some (.ref C)) (ha : PA X (e :: es) ta)
    (hdb : (x == ("__debug__" : Str)) = false := by decide) (he : starEach (e :: es) X.env = (false, eval e X.env) :: starEach es X.env := by rfl) (hpl : (backTo pos (starEach es X.env)).any (·.1) = false := by rfl) :
    PMk X (.Call (.Name x p) (e :: es) [] pos) (tMkX C sp ta) := by
  intro pins s σ H Q I h
  obtain ⟨B, newId, initId, bmB, FB, SB, nm, q, N, bs, bm, sn, sub, ab, col, dd, k0, k1, k2, k3, k5, hC, hbm⟩ := T.base
  refine wpAny_Call_Name_kw (ld_glob I hg hm ?_ hdb)
  refine PySem.W.callWith_K (h₀ := X.base) I.ok.mod.kin T.kC (thn (ha.run pos pins s σ H _ I h) fun us s1 ⟨vs, H1, I1, r1, hz, q1⟩ => ⟨I1.kIn, ?_⟩) he hpl
  show wpAny _ _ (call (.ref C) us) _ _ _
  obtain ⟨hp, g, dr, tk, os⟩ := s1
  have hsz : hp.objs.size ≤ hp.objs.size + 1 := Nat.le_succ _
  have hn : H1 (hp.objs.size + 1) = none := I1.hok.fresh hsz
  have hq := q1 (hp.objs.size + 1) hn
  have kk : ∀ b o, hp.get? b = some o → ((hp.push (PySem.W.kdv_tup us)).push (PySem.HandSPX.excO C hp.objs.size)).get? b = some o := fun b o e => Heap.get?_push_of_some _ (Heap.get?_push_of_some _ e)
  have hget : ((hp.push (PySem.W.kdv_tup us)).push (PySem.HandSPX.excO C hp.objs.size)).get? (hp.objs.size + 1) = some (PySem.HandSPX.excO C hp.objs.size) := by heap_get
  have I2 : Inv X pins σ (upd H1 (hp.objs.size + 1) (exo (hp.objs.size + 1) C none)) ⟨(hp.push (PySem.W.kdv_tup us)).push (PySem.HandSPX.excO C hp.objs.size), g, dr, tk, os⟩ :=
    I1.laid (t' := tk) (a := hp.objs.size + 1) (o := exo (hp.objs.size + 1) C none) (h' := (hp.push (PySem.W.kdv_tup us)).push (PySem.HandSPX.excO C hp.objs.size)) kk hsz (exo_ok hget)
  have r2 : Vals (V.ref (hp.objs.size + 1) :: vs) (Value.ref (hp.objs.size + 1) :: us) := .cons rfl r1
  have hl : (Value.ref (hp.objs.size + 1) :: us).length = ps.length := by
    have z := F1.len _ _ _ _ hq
    rw [← z, r2.length]
  have hbt := hb ⟨(hp.push (PySem.W.kdv_tup us)).push (PySem.HandSPX.excO C hp.objs.size), g, dr, tk, os⟩ (Value.ref (hp.objs.size + 1) :: us) I2.kIn (by rw [List.append_nil]; exact hl)
  rw [List.append_nil] at hbt
  have hus : us.length ≤ sizeLine := by
    rw [← Paired.length r1, sizeLine_eq]
    omega
  refine wpAny_call (PySem.LwX.call_kw FB (fun Y => PySem.W.excTail_contains Y bm hbm) (I1.kIn _ _ hC) (PySem.W.looks_findIn I1.kIn T.iC) (fun self => PySem.W.bind_fn I1.kIn self T.tI) hus
    (codeAny_mono (F1.run _ X.stack _ _ ⟨Value.ref (hp.objs.size + 1) :: us, []⟩ (Value.ref (hp.objs.size + 1) :: us) _ _ (fun _ _ _ => False) (hr.make C us []) (I2.env0.make C us []) hbt r2 hq) fun r s' hq' => ?_))
  cases r with
  | error er => exact hx pins σ _ _ er s' I2 hq'
  | ok fl =>
    cases fl with
    | ret u =>
      obtain ⟨v, H2, os2, bare2, un2, hok2, rv, ev, d, fs, ea, ed, hd1, q2⟩ := hq'
      subst ev
      obtain ⟨h2, g2, d2, t2, os'⟩ := s'
      exact ⟨rv, mk_end (raises_own T.exC T.tyC) I1 hsz kk un2 hok2 os2 bare2 ea ed hd1 q2⟩
    | next => exact False.elim hq'
    | brk => exact False.elim hq'
    | cont => exact False.elim hq'
end
end L2

/-! R4 -/
/-! ### names and steps -/
namespace Rw
open PySem PySem.Spec PyProof.Rows L2
def top (i : Nat) : Stmt := PySem.Challenge.pw_takendown_k02_whole_bodies_walked.main.body.getD i (.Pass ⟨0, 0, 0, 0⟩)
theorem same_upd {H : Hp} {p : Addr} {o : HO} (h : H p = none) : Same H (upd H p o) := fun b x e => by
  rw [upd_ne (ne_of_none e h)]
  exact e
/-- for i, x in enumerate(tuple) -/
theorem for_enumT {K : PySem.W.Frag} {a : Addr} {xs : List V} {g : TG} {tb : TS} {D : Ends} {σ : L2.St} {H : Hp} (Pv : Nat → L2.St → Hp → Prop) (h0 : Pv 0 σ H) (hl : ∀ i σ H, i ≤ xs.length → Pv i σ H → SqT K H a xs)
    (hs : ∀ i x σ H T, xs[i]? = some x → Pv i σ H → H T = none → g (.ref T) σ (upd H T (.tup [.int (i : Nat), x])) fun σ2 H2 => tb { D with nx := Pv (i + 1), ct := Pv (i + 1), bk := D.nx } σ2 H2) (hd : ∀ σ H, Pv xs.length σ H → D.nx σ H) :
    ∃ W : Nat → Nat → L2.St → Hp → Prop, (∃ m, W 0 m σ H) ∧ ∀ i m σ H, W i m σ H →
      ((IteT K a).stop i H ∧ D.nx σ H) ∨ ((IteT K a).go i H ∧ ∃ N : L2.St → Hp → Prop, (∀ σ' H', N σ' H' → ∃ m', m' < m ∧ W (i + 1) m' σ' H') ∧ ∀ x H', (IteT K a).yld i H x H' → g x σ H' fun σ2 H2 => tb { D with nx := N, ct := N, bk := D.nx } σ2 H2) := by
  refine ⟨fun i m σ H => m = xs.length - i ∧ i ≤ xs.length ∧ Pv i σ H, ⟨xs.length, by simp, Nat.zero_le _, h0⟩, ?_⟩
  rintro i m σ H ⟨rfl, hi, p⟩
  have q := hl i σ H hi p
  by_cases hlt : i < xs.length
  · refine .inr ⟨⟨xs, xs[i], q, by simp [hlt]⟩, Pv (i + 1), fun σ' H' p' => ⟨xs.length - (i + 1), by omega, rfl, hlt, p'⟩, fun v H' y => ?_⟩
    obtain ⟨T, x, rfl, nT, rfl, hx⟩ := y
    exact hs i x σ H T (hx xs q) p nT
  · have e : i = xs.length := by omega
    subst e
    exact .inl ⟨⟨xs, q, rfl⟩, hd σ H p⟩
/-- [.. for c in text] -/
theorem lc_text {z : Str} {g : TG} {tt : TT} {te : TE} {vs : List Nat} {σ : L2.St} {H1 : Hp} {D : Addr} {Qd : Hp → Prop} (Pv : Nat → Hp → Prop) (h0 : Pv 0 (upd H1 D (.lst [])))
    (hs : ∀ i c H, z.cps[i]? = some c → Pv i H → g (.str ⟨#[c]⟩) (wipe σ vs) H fun σ2 H2 => wipe σ2 vs = wipe σ vs ∧ tt σ2 H2 fun b H3 =>
      if b = true then te σ2 H3 fun y H4 => ∃ acc, H4 D = some (.lst acc) ∧ acc.length < sizeLine ∧ Pv (i + 1) (upd H4 D (.lst (acc ++ [y]))) else Pv (i + 1) H3) (hd : ∀ H, Pv z.cps.size H → Qd H) :
    ∃ W : Nat → Nat → Hp → Prop, (∃ m, W 0 m (upd H1 D (.lst []))) ∧ ∀ i m H, W i m H →
      ((Its z).stop i H ∧ Qd H) ∨ ((Its z).go i H ∧ ∃ Nx : Hp → Prop, (∀ H', Nx H' → ∃ m', m' < m ∧ W (i + 1) m' H') ∧ ∀ x H', (Its z).yld i H x H' → g x (wipe σ vs) H' fun σ2 H2 => wipe σ2 vs = wipe σ vs ∧ tt σ2 H2 fun b H3 =>
        if b = true then te σ2 H3 fun y H4 => ∃ acc, H4 D = some (.lst acc) ∧ acc.length < sizeLine ∧ Nx (upd H4 D (.lst (acc ++ [y]))) else Nx H3) := by
  refine ⟨fun i m H => m = z.cps.size - i ∧ i ≤ z.cps.size ∧ Pv i H, ⟨z.cps.size, by simp, Nat.zero_le _, h0⟩, ?_⟩
  rintro i m H ⟨rfl, hi, p⟩
  by_cases hlt : i < z.cps.size
  · refine .inr ⟨hlt, Pv (i + 1), fun H' p' => ⟨z.cps.size - (i + 1), by omega, rfl, hlt, p'⟩, fun x H' y => ?_⟩
    obtain ⟨rfl, c, hc, rfl⟩ := y
    exact hs i c _ hc p
  · have e : i = z.cps.size := by omega
    subst e
    exact .inl ⟨Nat.le_refl _, hd H p⟩
/-- a sign from a to z -/
def letB (c : Nat) : Bool := if (!decide ([c] < [97])) = true then !decide ([122] < [c]) else false
def nameB (z : Str) : Bool := decide (1 ≤ z.length) && decide (z.length ≤ 8) && (z.cps.toList.map letB).all id
abbrev oddTys : List String := ["NoneType", "bool", "int", "list", "tuple", "dict"]
/-- any value, and whether it is a name -/
inductive NV (K : PySem.W.Frag) (H : Hp) : V → Bool → Prop
  | str (z : Str) : z.length ≤ 1000000 → NV K H (.str z) (nameB z)
  | other {v : V} {T : String} : TyX K H v (.type T) → T ∈ oddTys → NV K H v false
def spName (K : PySem.W.Frag) : Sp := fun vs H Q _ => ∃ (v : V) (b : Bool), vs = [v] ∧ NV K H v b ∧ ∀ H', Same H H' → Q (.bl b) H'
theorem len_codes (z : Str) : z.length = z.cps.size := rfl
section
variable {P : Program} {w : World} {K : PySem.W.Frag} {mg : Str → Option Value} {base : Heap}
abbrev sName : Stmt := top 15
theorem scName : FnScope ["value", "letter"] ["value"] (defScope sName) := ⟨rfl, rfl, rfl, by decide +kernel, rfl, by decide +kernel, by decide +kernel⟩
theorem ok_name {f : Addr} {fd : FuncData} (F : Fun K "is_name" "is_name" sName f fd) (m_isinstance : mg "isinstance" = none) (m_str : mg "str" = none) (m_len : mg "len" = none) (m_all : mg "all" = none) {tM : Tok} (mM : mg "MOST_LETTERS" = some (.int 8 tM)) :
    FnOk P w K mg base CX0 1 f fd ["value"] (spName K) := by
  refine F.ok scName (fun vs H Q E h => ?_) (fun cdv A outer s H vs Q E hr h => ?_)
  · obtain ⟨v, b, rfl, _⟩ := h
    rfl
  · obtain ⟨v, b, rfl, hv, q⟩ := h
    refine ⟨_, (pss_cons (ps_if (PW.pt (pw_or (pt_not (pt_val (pe_callB call_isi (by rfl) m_isinstance (by decide +kernel) (pa_cons (pv 0) (pa_cons (pe_bltn (v := .ty "str") (by rfl) m_str (by decide +kernel) rfl) pa_nil))))) (pw_or1 (pt_not (pt_chain op_le op_le pe_int (pe_callB call_len_str (by rfl) m_len PySem.boot_len (pa_cons (pv 0) pa_nil)) (pe_glob (v := .int 8) rfl mM ⟨_, rfl⟩))))))
       (pss_one (ps_ret pe_bl))
       pss_nil)
       (pss_one (ps_ret (pe_callB (cr_all rfl) (by rfl) m_all (by decide +kernel) (pa_cons (pe_lc (own := [("letter", 1)]) (g := gName 1) (tt := tYes) rfl scName.nd (pi_str (pv 0)) (blkOk_by (N := ["value", "letter"]) (sc := defScope sName) (by decide +kernel)) (fun _ _ _ _ _ => pg_name (i := 1) scName.nd rfl (Or.inl rfl)) (fun _ _ _ _ _ => pts_nil) (fun _ _ _ _ _ => (pe_chain op_le_str op_le_str pe_str (pv 1) pe_str))) pa_nil))))), ?_⟩
    cases hv with
    | @other _ T ty hT =>
      have kt : PySem.W.kitOne K (.type T) (.type "str") = some false := by
        simp only [oddTys, List.mem_cons, List.mem_nil_iff, or_false] at hT
        rcases hT with rfl | rfl | rfl | rfl | rfl | rfl <;> exact kit_ty (by decide +kernel)
      exact ⟨_, rfl, _, _, _, _, _, rfl, .ty _, ty, kt, _, rfl, iteT (iteT (q H (Same.refl H)))⟩
    | str z hz =>
      have kt : PySem.W.kitOne K (.type "str") (.type "str") = some true := kit_ty (by decide +kernel)
      have hz2 : z.length ≤ sizeLine := by
        rw [sizeLine_eq]
        omega
      refine ⟨_, rfl, _, _, _, _, _, rfl, .ty _, .base (.str z), kt, _, rfl, iteF ?_⟩
      refine ⟨_, rfl, z, rfl, hz2, _, _, rfl, rfl, _, rfl, ?_⟩
      refine ite2 (fun h1 => ?_) (fun h1 => ?_)
      · have h1' : (1 : Int) ≤ (z.length : Int) := of_decide_eq_true h1
        refine ⟨_, _, rfl, rfl, _, rfl, ?_⟩
        by_cases h2 : (z.length : Int) ≤ 8
        · refine iteNS h2 ?_
          refine ⟨_, rfl, z, rfl, fun D nD => lc_text (fun i H' => Same H H' ∧ H' D = some (.lst (((z.cps.toList.take i).map letB).map V.bl))) ⟨same_upd nD, upd_same⟩ ?_ ?_⟩
          · rintro i c H1 hc ⟨s1, e1⟩
            have hi : i < z.cps.size := (Array.getElem?_eq_some_iff.mp hc).1
            refine ⟨rfl, ?_⟩
            dsimp only [tYes]
            rw [if_pos rfl]
            have fin : ∀ y, y = V.bl (letB c) → ∃ acc, H1 D = some (.lst acc) ∧ acc.length < sizeLine ∧ Same H (upd H1 D (.lst (acc ++ [y]))) ∧ (upd H1 D (.lst (acc ++ [y]))) D = some (.lst (((z.cps.toList.take (i + 1)).map letB).map V.bl)) := by
              rintro y rfl
              refine ⟨_, e1, ?_, fun b o e => ?_, ?_⟩
              · rw [List.length_map, List.length_map, List.length_take, sizeLine_eq]
                have z1 : z.cps.toList.length = z.cps.size := Array.length_toList
                have z2 : z.length = z.cps.size := rfl
                omega
              · rw [upd_ne (ne_of_none e nD)]
                exact s1 b o e
              · have e3 : z.cps.toList[i]? = some c := by rw [Array.getElem?_toList]; exact hc
                rw [upd_same, List.take_add_one, e3, List.map_append, List.map_append]
                rfl
            refine ⟨_, rfl, _, _, rfl, rfl, _, rfl, ?_⟩
            by_cases h3 : (!decide ([c] < [97])) = true
            · refine (if_pos h3).mpr ?_
              refine ⟨_, _, rfl, rfl, fin _ ?_⟩
              unfold letB
              rw [if_pos h3]
              rfl
            · refine (if_neg h3).mpr ?_
              refine fin _ ?_
              unfold letB
              rw [if_neg h3]
          · rintro H1 ⟨s1, e1⟩
            have e2 : z.cps.toList.take z.cps.size = z.cps.toList := by
              rw [List.take_of_length_le]
              rw [Array.length_toList]
              exact Nat.le_refl _
            rw [e2] at e1
            refine ⟨D, _, rfl, .inl (.inl e1), ?_⟩
            have e3 : (z.cps.toList.map letB).all id = nameB z := by
              unfold nameB
              rw [decide_eq_true (show 1 ≤ z.length by omega), decide_eq_true (show z.length ≤ 8 by omega)]
              rfl
            rw [e3]
            exact q H1 s1
        · have e3 : nameB z = false := by
            unfold nameB
            rw [decide_eq_false (show ¬ z.length ≤ 8 by omega), Bool.and_false, Bool.false_and]
          have z := q H (Same.refl H)
          rw [e3] at z
          rw [decide_eq_false h2]
          exact iteT z
      · have h1' : ¬ (1 : Int) ≤ (z.length : Int) := fun e => h1 (decide_eq_true e)
        have e3 : nameB z = false := by
          unfold nameB
          rw [decide_eq_false (show ¬ 1 ≤ z.length by omega), Bool.false_and, Bool.false_and]
        have y := q H (Same.refl H)
        rw [e3] at y
        exact ⟨_, rfl, iteT y⟩
end
end Rw

/-! T1 -/
/-! ### is_step -/
namespace Rw
open PySem PySem.Spec PyProof.Rows L2
theorem tyx_tup {K : PySem.W.Frag} {H : Hp} {p : Addr} {xs : List V} (h : SqT K H p xs) : TyX K H (.ref p) (.type "tuple") := by
  rcases h with (h | ⟨o, h⟩) | ⟨o, its, n, hl, hc, r⟩
  · exact .base (.tup h)
  · exact .fTuple h
  · exact .kTuple hl hc
abbrev noTup : List String := ["NoneType", "bool", "int", "list", "str", "dict"]
/-- a def as it is called -/
def Called (K : PySem.W.Frag) (mg : Str → Option Value) (x : Str) (ps : List Str) (f : Addr) (fd : FuncData) : Prop := mg x = some (.ref f) ∧ PySem.W.keepIn K (.ref f) = true ∧ Binds K fd ps []
section
variable {P : Program} {w : World} {K : PySem.W.Frag} {mg : Str → Option Value} {base : Heap}
end
end Rw

/-! ### what is never come to; not in a tuple of data -/
namespace L2
open PySem PySem.Spec PyProof.Rows
def tDead : TE := fun _ _ _ => False
def sDead : TS := fun _ _ _ => False
theorem pe_dead {X : Cx} {e : Expr} : PE X e tDead := ⟨fun _ _ _ _ _ _ h => False.elim h⟩
theorem ps_dead {X : Cx} {st : Stmt} : PS X st sDead := ⟨fun _ _ _ _ _ _ h => False.elim h⟩
theorem pss_dead {X : Cx} {st : List Stmt} : PSs X st sDead := ⟨fun _ _ _ _ _ _ h => False.elim h⟩
def rNotInTD (K : PySem.W.Frag) : R2 := fun x y H Q => ∃ d ds, Dp K H x d ∧ Dp K H y (.tuple ds) ∧ SeqAt.shaped d = true ∧ SeqAt.shaped (.tuple ds) = true ∧ Q (.bl (!ds.any fun z => PyData.eqv z d)) H
theorem op_notInTD {X : Cx} (hu : X.A.units + 65 < cLine) : OpR X (compareOp .NotIn) (rNotInTD X.K) := by
  intro pins s σ H x y v u Q I rx ry h
  obtain ⟨d, ds, hd, he, sd, se, q⟩ := h
  obtain ⟨as, r1⟩ := Dp.reads I d x v hd rx
  obtain ⟨bs, r2⟩ := Dp.reads I (.tuple ds) y u he ry
  exact SeqAt.notIn_tuple_reads r2 r1 (SeqAt.canLay_of_shaped se) (SeqAt.canLay_of_shaped sd) (room_in_shaped sd hu) ⟨.bl _, H, I, rfl, q⟩
theorem Room.units65 {k : Nat} {A : Around} (r : Room k A) : A.units + 65 < cLine := by have := r.un; omega
theorem Same.tupS {K : PySem.W.Frag} {H H' : Hp} {a : Addr} {xs : List V} (e : Same H H') (h : SqT K H a xs) : SqT K H' a xs := h.ext e
end L2
/-! ### steps, and the locks behind them -/
namespace Rw
open PySem PySem.Spec PyProof.Rows L2
abbrev Step := Str × Str
inductive All2 {α β : Type} (R : α → β → Prop) : List α → List β → Prop
  | nil : All2 R [] []
  | cons {a : α} {b : β} {as : List α} {bs : List β} : R a b → All2 R as bs → All2 R (a :: as) (b :: bs)
theorem All2.length {α β : Type} {R : α → β → Prop} {as : List α} {bs : List β} (h : All2 R as bs) : as.length = bs.length := by
  induction h with
  | nil => rfl
  | cons _ _ ih => exact congrArg (· + 1) ih
theorem All2.get {α β : Type} {R : α → β → Prop} {as : List α} {bs : List β} (h : All2 R as bs) : ∀ {i : Nat} {a : α}, as[i]? = some a → ∃ b, bs[i]? = some b ∧ R a b := by
  induction h with
  | nil => intro i a e; cases e
  | cons r _ ih =>
    intro i a e
    cases i with
    | zero => cases e; exact ⟨_, rfl, r⟩
    | succ i => exact ih e
theorem All2.mono {α β : Type} {R S : α → β → Prop} (f : ∀ a b, R a b → S a b) {as : List α} {bs : List β} (h : All2 R as bs) : All2 S as bs := by
  induction h with
  | nil => exact .nil
  | cons r _ ih => exact .cons (f _ _ r) ih
theorem All2.append {α β : Type} {R : α → β → Prop} {as as' : List α} {bs bs' : List β} (h : All2 R as bs) (h' : All2 R as' bs') : All2 R (as ++ as') (bs ++ bs') := by
  induction h with
  | nil => exact h'
  | cons r _ ih => exact .cons r ih
theorem All2.drop {α β : Type} {R : α → β → Prop} {as : List α} {bs : List β} (h : All2 R as bs) : ∀ n, All2 R (as.drop n) (bs.drop n) := by
  induction h with
  | nil => intro n; simp only [List.drop_nil]; exact .nil
  | cons r t ih =>
    intro n
    cases n with
    | zero => exact .cons r t
    | succ n => exact ih n
theorem All2.take {α β : Type} {R : α → β → Prop} {as : List α} {bs : List β} (h : All2 R as bs) : ∀ n, All2 R (as.take n) (bs.take n) := by
  induction h with
  | nil => intro n; simp only [List.take_nil]; exact .nil
  | cons r t ih =>
    intro n
    cases n with
    | zero => exact .nil
    | succ n => exact .cons r (ih n)
def StepAt (K : PySem.W.Frag) (H : Hp) (v : V) (s : Step) : Prop := ∃ p, v = .ref p ∧ SqT K H p [.str s.1, .str s.2]
def StepsAt (K : PySem.W.Frag) (H : Hp) : List V → List Step → Prop := All2 (StepAt K H)
def TxtT (K : PySem.W.Frag) (H : Hp) (v : V) (ns : List Str) : Prop := ∃ p, v = .ref p ∧ SqT K H p (ns.map V.str)
theorem StepAt.same {K : PySem.W.Frag} {H H' : Hp} (e : Same H H') {v : V} {s : Step} (h : StepAt K H v s) : StepAt K H' v s := let ⟨p, q, r⟩ := h; ⟨p, q, e.tupS r⟩
theorem StepsAt.same {K : PySem.W.Frag} {H H' : Hp} (e : Same H H') {vs : List V} {ss : List Step} (h : StepsAt K H vs ss) : StepsAt K H' vs ss := by
  exact h.mono fun _ _ a => a.same e
theorem TxtT.same {K : PySem.W.Frag} {H H' : Hp} (e : Same H H') {v : V} {s : List Str} (h : TxtT K H v s) : TxtT K H' v s := let ⟨p, q, r⟩ := h; ⟨p, q, e.tupS r⟩
theorem dec_str {a b : Str} : decide (V.str a = V.str b) = decide (a = b) := by
  by_cases h : a = b
  · rw [h, decide_eq_true rfl, decide_eq_true rfl]
  · rw [decide_eq_false h, decide_eq_false (fun e => h (V.str.inj e))]
theorem sIx_m1 (n d : Nat) : HT.sIx n d (some (-1)) = n - 1 := by
  show (if (-1 : Int) < 0 then ((-1 : Int) + (n : Int)).toNat else min (-1 : Int).toNat n) = n - 1
  rw [if_pos (by decide)]
  omega
theorem cut_m1 (xs : List V) : cutV xs none (some (-1)) = xs.dropLast := by
  show (xs.drop (HT.sIx xs.length 0 none)).take (HT.sIx xs.length xs.length (some (-1)) - HT.sIx xs.length 0 none) = xs.dropLast
  rw [sIx_m1]
  show (xs.drop 0).take (xs.length - 1 - 0) = _
  rw [List.drop_zero, Nat.sub_zero, List.dropLast_eq_take]
section
variable {P : Program} {w : World} {K : PySem.W.Frag} {mg : Str → Option Value} {base : Heap}
end
end Rw

/-! ### the locks along the steps -/
namespace Rw
open PySem PySem.Spec PyProof.Rows L2
theorem sqT_updL {K : PySem.W.Frag} {H : Hp} {o a : Addr} {ys xs : List V} {u : HO} (ho : H o = some (.lst ys)) (h : SqT K H a xs) : SqT K (upd H o u) a xs := by
  rcases h with (h | ⟨ob, h⟩) | h
  · exact .inl (.inl (by rw [upd_ne (fun e => by rw [e, ho] at h; cases h)]; exact h))
  · exact .inl (.inr ⟨ob, by rw [upd_ne (fun e => by rw [e, ho] at h; cases h)]; exact h⟩)
  · exact .inr h
theorem TxtT.updL {K : PySem.W.Frag} {H : Hp} {o : Addr} {ys : List V} {v : V} {ns : List Str} {u : HO} (ho : H o = some (.lst ys)) (h : TxtT K H v ns) : TxtT K (upd H o u) v ns := let ⟨p, e, q⟩ := h; ⟨p, e, sqT_updL ho q⟩
theorem same_updN {H H' : Hp} {o : Addr} {u : HO} (no : H o = none) (s : Same H H') : Same H (upd H' o u) := fun b z e => by
  rw [upd_ne (ne_of_none e no)]
  exact s b z e
theorem take_snoc {α : Type} {xs : List α} {i : Nat} {x : α} (h : xs[i]? = some x) : xs.take (i + 1) = xs.take i ++ [x] := by
  rw [List.take_add_one, h]
  rfl
section
variable {P : Program} {w : World} {K : PySem.W.Frag} {mg : Str → Option Value} {base : Heap}
end
end Rw

/-! ### which step takes or gives wrongly -/
namespace Rw
open PySem PySem.Spec PyProof.Rows L2
def txtD (ns : List Str) : PyData := .tuple (ns.map PyData.str)
def stepD (s : Step) : PyData := .tuple [.str s.1, .str s.2]
theorem eqvAll_txt : ∀ as bs : List Str, PyData.eqvAll (as.map PyData.str) (bs.map PyData.str) = decide (as = bs)
  | [], [] => rfl
  | [], b :: bs => by rw [decide_eq_false (by simp)]; rfl
  | a :: as, [] => by rw [decide_eq_false (by simp)]; rfl
  | a :: as, b :: bs => by
    show (a == b && PyData.eqvAll (as.map PyData.str) (bs.map PyData.str)) = _
    rw [eqvAll_txt as bs]
    by_cases h : a = b
    · subst h
      rw [beq_self_eq_true, Bool.true_and]
      by_cases h2 : as = bs
      · subst h2
        rw [decide_eq_true rfl, decide_eq_true rfl]
      · rw [decide_eq_false h2, decide_eq_false (fun e => h2 (List.cons.inj e).2)]
    · rw [beq_eq_false_iff_ne.mpr h, Bool.false_and, decide_eq_false (fun e => h (List.cons.inj e).1)]
theorem eqv_txt (as bs : List Str) : PyData.eqv (txtD as) (txtD bs) = decide (as = bs) := by
  unfold txtD
  rw [show PyData.eqv (.tuple (as.map PyData.str)) (.tuple (bs.map PyData.str)) = PyData.eqvAll (as.map PyData.str) (bs.map PyData.str) by simp only [PyData.eqv]]
  exact eqvAll_txt as bs
theorem stepD_txt (s : Step) : stepD s = txtD [s.1, s.2] := rfl
theorem eqv_step (s t : Step) : PyData.eqv (stepD s) (stepD t) = decide (s = t) := by
  rw [stepD_txt, stepD_txt, eqv_txt]
  by_cases h : s = t
  · subst h
    rw [decide_eq_true rfl, decide_eq_true rfl]
  · rw [decide_eq_false h, decide_eq_false]
    intro e
    have e1 := (List.cons.inj e).1
    have e2 := (List.cons.inj (List.cons.inj e).2).1
    exact h (Prod.ext e1 e2)
theorem any_step (ss : List Step) (t : Step) : (ss.map stepD).any (fun z => PyData.eqv z (stepD t)) = decide (t ∈ ss) := by
  induction ss with
  | nil => rw [decide_eq_false (by simp)]; rfl
  | cons s ss ih =>
    rw [List.map_cons, List.any_cons, ih, eqv_step]
    by_cases h : s = t
    · subst h
      rw [decide_eq_true rfl, decide_eq_true List.mem_cons_self, Bool.true_or]
    · rw [decide_eq_false h, Bool.false_or]
      by_cases h2 : t ∈ ss
      · rw [decide_eq_true h2, decide_eq_true (List.mem_cons_of_mem _ h2)]
      · rw [decide_eq_false h2, decide_eq_false]
        intro e
        rcases List.mem_cons.mp e with e | e
        · exact h e.symm
        · exact h2 e
abbrev sOk (n : Str) : Prop := PyData.strOk n = true
theorem txt_lay : ∀ ns : List Str, (∀ n ∈ ns, sOk n) → PyData.canLayAll0 (ns.map PyData.str) = true ∧ PyData.depthAll (ns.map PyData.str) = 0
  | [], _ => ⟨rfl, rfl⟩
  | n :: ns, h => by
    obtain ⟨a, b⟩ := txt_lay ns (fun x hx => h x (List.mem_cons_of_mem _ hx))
    refine ⟨?_, ?_⟩
    · show (PyData.canLay0 (.str n) && PyData.canLayAll0 (ns.map PyData.str)) = true
      rw [a, Bool.and_true]
      have e : PyData.canLay0 (.str n) = PyData.strOk n := by simp only [PyData.canLay0]
      rw [e]
      exact h n List.mem_cons_self
    · show max (PyData.depth (.str n)) (PyData.depthAll (ns.map PyData.str)) = 0
      have e : PyData.depth (.str n) = 0 := by simp only [PyData.depth]
      rw [b, e]
      rfl
theorem shaped_of {d : PyData} (h1 : d.canLay0 = true) (h2 : d.depth ≤ 64) : SeqAt.shaped d = true := by
  show (d.canLay0 && decide (d.depth ≤ 64)) = true
  rw [h1, decide_eq_true h2]
  rfl
theorem txtD_lay {ns : List Str} (h : ∀ n ∈ ns, sOk n) : (txtD ns).canLay0 = true ∧ (txtD ns).depth = 1 := by
  obtain ⟨a, b⟩ := txt_lay ns h
  unfold txtD
  simp only [PyData.canLay0, PyData.depth]
  rw [a, b]
  exact ⟨rfl, rfl⟩
theorem txtD_shaped {ns : List Str} (h : ∀ n ∈ ns, sOk n) : SeqAt.shaped (txtD ns) = true := by
  obtain ⟨a, b⟩ := txtD_lay h
  exact shaped_of a (by omega)
theorem dp_txts {K : PySem.W.Frag} {H : Hp} : ∀ ns : List Str, DpAll K H (ns.map V.str) (ns.map PyData.str)
  | [] => .nil
  | n :: ns => .cons (.str n) (dp_txts ns)
theorem TxtT.dp {K : PySem.W.Frag} {H : Hp} {v : V} {ns : List Str} (h : TxtT K H v ns) : Dp K H v (txtD ns) := by
  obtain ⟨p, rfl, q⟩ := h
  exact .tup q (dp_txts ns)
theorem StepAt.dp {K : PySem.W.Frag} {H : Hp} {v : V} {s : Step} (h : StepAt K H v s) : Dp K H v (stepD s) := by
  obtain ⟨p, rfl, q⟩ := h
  exact .tup q (dp_txts [s.1, s.2])
theorem StepsAt.dp {K : PySem.W.Frag} {H : Hp} {xs : List V} {ss : List Step} (h : StepsAt K H xs ss) : DpAll K H xs (ss.map stepD) := by
  unfold StepsAt at h
  induction h with
  | nil => exact .nil
  | cons a _ ih => exact .cons a.dp ih
theorem inV_txt (n : Str) : ∀ ns : List Str, inV (.str n) (ns.map V.str) = decide (n ∈ ns)
  | [] => by rw [decide_eq_false (by simp)]; rfl
  | m :: ns => by
    have e : inV (.str n) ((m :: ns).map V.str) = ((m == n) || inV (.str n) (ns.map V.str)) := rfl
    rw [e, inV_txt n ns]
    by_cases h : m = n
    · subst h
      rw [beq_self_eq_true, Bool.true_or, decide_eq_true List.mem_cons_self]
    · rw [beq_eq_false_iff_ne.mpr h, Bool.false_or]
      by_cases h2 : n ∈ ns
      · rw [decide_eq_true h2, decide_eq_true (List.mem_cons_of_mem _ h2)]
      · rw [decide_eq_false h2, decide_eq_false]
        intro z
        rcases List.mem_cons.mp z with z | z
        · exact h z.symm
        · exact h2 z
theorem flat_txt : ∀ ns : List Str, (ns.map V.str).all flatV = true
  | [] => rfl
  | n :: ns => by
    show (flatV (.str n) && (ns.map V.str).all flatV) = true
    rw [flat_txt ns]
    rfl
/-- a + b of tuples of texts -/
theorem cat_txt {K : PySem.W.Frag} {H : Hp} {u v : V} {as bs : List Str} {Q : VK} (ha : TxtT K H u as) (hb : TxtT K H v bs) (hl : as.length + bs.length ≤ 1000) (q : ∀ H' u, Same H H' → TxtT K H' u (as ++ bs) → Q u H') : rCatA K u v H Q := by
  obtain ⟨a, rfl, ha⟩ := ha
  obtain ⟨b, rfl, hb⟩ := hb
  refine ⟨a, b, _, _, rfl, rfl, ha, hb, ?_, fun e => ?_, fun _ e => ?_, fun _ _ p np => ?_⟩
  · rw [List.length_map, List.length_map, sizeLine_eq]
    omega
  · have e2 : as = [] := List.map_eq_nil_iff.mp e
    subst e2
    exact q H _ (Same.refl H) ⟨b, rfl, hb⟩
  · have e2 : bs = [] := List.map_eq_nil_iff.mp e
    subst e2
    rw [List.append_nil] at q
    exact q H _ (Same.refl H) ⟨a, rfl, ha⟩
  · refine q _ _ (same_upd np) ⟨p, rfl, SqT.of ?_⟩
    rw [upd_same, List.map_append]
/-- t[-1:] of a tuple of texts -/
theorem last_txt {K : PySem.W.Frag} {H : Hp} {u : V} {ns : List Str} {Q : VK} (h : TxtT K H u ns) (q : ∀ H' u, Same H H' → TxtT K H' u (ns.drop (ns.length - 1)) → Q u H') : rSlA K u (some (-1)) none H Q := by
  obtain ⟨a, rfl, h⟩ := h
  have e1 : HT.sIx (ns.map V.str).length 0 (some (-1)) = ns.length - 1 := by rw [List.length_map]; exact sIx_m1 _ _
  refine ⟨a, _, rfl, h, fun c => ?_, fun c u nu => ?_⟩
  · have c1 := c.1
    rw [e1] at c1
    rw [c1, List.drop_zero] at q
    exact q H _ (Same.refl H) ⟨a, rfl, h⟩
  · refine q _ _ (same_upd nu) ⟨u, rfl, SqT.of ?_⟩
    rw [upd_same]
    have e2 : cutV (ns.map V.str) (some (-1)) none = (ns.drop (ns.length - 1)).map V.str := by
      show ((ns.map V.str).drop (HT.sIx (ns.map V.str).length 0 (some (-1)))).take (HT.sIx (ns.map V.str).length (ns.map V.str).length none - HT.sIx (ns.map V.str).length 0 (some (-1))) = _
      rw [e1, List.map_drop]
      show ((ns.map V.str).drop (ns.length - 1)).take ((ns.map V.str).length - (ns.length - 1)) = _
      rw [List.take_of_length_le]
      rw [List.length_drop]
      exact Nat.le_refl _
    rw [e2]
section
variable {P : Program} {w : World} {K : PySem.W.Frag} {mg : Str → Option Value} {base : Heap}
end
end Rw

/-! ### the steps that take or give wrongly -/
namespace Rw
open PySem PySem.Spec PyProof.Rows L2
/-- t[i + 1:] -/
theorem tail_tup {K : PySem.W.Frag} {H : Hp} {p : Addr} {xs : List V} {i : Nat} {Q : VK} (h : SqT K H p xs) (hi : i < xs.length) (q : ∀ H' u, Same H H' → SqT K H' u (xs.drop (i + 1)) → Q (.ref u) H') : rSlA K (.ref p) (some ((i : Int) + 1)) none H Q := by
  have e1 : HT.sIx xs.length 0 (some ((i : Int) + 1)) = i + 1 := by
    have z := HT.sIx_nat xs.length 0 (i + 1)
    rw [show (((i + 1 : Nat) : Int)) = (i : Int) + 1 by omega] at z
    rw [z]
    omega
  refine ⟨p, _, rfl, h, fun c => ?_, fun c u nu => ?_⟩
  · have c1 := c.1
    rw [e1] at c1
    omega
  · refine q _ _ (same_upd nu) (SqT.of ?_)
    rw [upd_same]
    have e2 : cutV xs (some ((i : Int) + 1)) none = xs.drop (i + 1) := by
      show (xs.drop (HT.sIx xs.length 0 (some ((i : Int) + 1)))).take (HT.sIx xs.length xs.length none - HT.sIx xs.length 0 (some ((i : Int) + 1))) = _
      rw [e1]
      show (xs.drop (i + 1)).take (xs.length - (i + 1)) = _
      rw [List.take_of_length_le]
      rw [List.length_drop]
      exact Nat.le_refl _
    rw [e2]
section
variable {P : Program} {w : World} {K : PySem.W.Frag} {mg : Str → Option Value} {base : Heap}
end
end Rw

/-! ### values that stay what they are; an own error raised -/
namespace Rw
open PySem PySem.Spec PyProof.Rows L2
theorem TyX_same {K : PySem.W.Frag} {H H' : Hp} (e : Same H H') {v : V} {t : Value} (h : TyX K H v t) : TyX K H' v t := by
  cases h with
  | base h =>
    cases h with
    | non => exact .base .non
    | bl x => exact .base (.bl x)
    | int i => exact .base (.int i)
    | str x => exact .base (.str x)
    | flt x => exact .base (.flt x)
    | lst h => exact .base (.lst (e _ _ h))
    | frz h => exact .base (.frz (e _ _ h))
    | tup h => exact .base (.tup (e _ _ h))
    | dK h => exact .base (.dK (e _ _ h))
    | dT h => exact .base (.dT (e _ _ h))
    | ins h a b c d f => exact .base (.ins (e _ _ h) a b c d f)
  | byt b => exact .byt b
  | set h => exact .set (e _ _ h)
  | kList h c => exact .kList h c
  | kTuple h c => exact .kTuple h c
  | kDict h c => exact .kDict h c
  | fTuple h => exact .fTuple (e _ _ h)
  | fDict h => exact .fDict (e _ _ h)
theorem NV.same {K : PySem.W.Frag} {H H' : Hp} (e : Same H H') {v : V} {b : Bool} (h : NV K H v b) : NV K H' v b := by
  cases h with
  | str z hz => exact .str z hz
  | other t m => exact .other (TyX_same e t) m
/-- for i, x in enumerate(list) -/
theorem for_enum {K : PySem.W.Frag} {a : Addr} {xs : List V} {g : TG} {tb : TS} {D : Ends} {σ : L2.St} {H : Hp} (Pv : Nat → L2.St → Hp → Prop) (h0 : Pv 0 σ H) (hl : ∀ i σ H, i ≤ xs.length → Pv i σ H → SqL K H a xs)
    (hs : ∀ i x σ H T, xs[i]? = some x → Pv i σ H → H T = none → g (.ref T) σ (upd H T (.tup [.int (i : Nat), x])) fun σ2 H2 => tb { D with nx := Pv (i + 1), ct := Pv (i + 1), bk := D.nx } σ2 H2) (hd : ∀ σ H, Pv xs.length σ H → D.nx σ H) :
    ∃ W : Nat → Nat → L2.St → Hp → Prop, (∃ m, W 0 m σ H) ∧ ∀ i m σ H, W i m σ H →
      ((Ite K a).stop i H ∧ D.nx σ H) ∨ ((Ite K a).go i H ∧ ∃ N : L2.St → Hp → Prop, (∀ σ' H', N σ' H' → ∃ m', m' < m ∧ W (i + 1) m' σ' H') ∧ ∀ x H', (Ite K a).yld i H x H' → g x σ H' fun σ2 H2 => tb { D with nx := N, ct := N, bk := D.nx } σ2 H2) := by
  refine ⟨fun i m σ H => m = xs.length - i ∧ i ≤ xs.length ∧ Pv i σ H, ⟨xs.length, by simp, Nat.zero_le _, h0⟩, ?_⟩
  rintro i m σ H ⟨rfl, hi, p⟩
  have q := hl i σ H hi p
  by_cases hlt : i < xs.length
  · refine .inr ⟨⟨xs, xs[i], q, by simp [hlt]⟩, Pv (i + 1), fun σ' H' p' => ⟨xs.length - (i + 1), by omega, rfl, hlt, p'⟩, fun v H' y => ?_⟩
    obtain ⟨T, x, rfl, nT, rfl, hx⟩ := y
    exact hs i x σ H T (hx xs q) p nT
  · have e : i = xs.length := by omega
    subst e
    exact .inl ⟨⟨xs, q, Nat.le_refl _⟩, hd σ H p⟩
def SameBut (a : Addr) (H H' : Hp) : Prop := ∀ b o, b ≠ a → H b = some o → H' b = some o
def spR1 (K : PySem.W.Frag) (n : Str) : Sp := fun vs H Q _ => ∃ (a C fI : Addr) (v : V), vs = [.ref a, v] ∧ OexG K C fI ∧ PySem.W.findIn K (.ref C) n = some none ∧ H a = some (exo a C none) ∧
  ∀ H' d, SameBut a H H' → H' a = some (exo a C (some d)) → H' d = some (exd d [(n, v)]) → H d = none → d ≠ a → Q .non H'
/-- what a raise of it leaves -/
def Left (H : Hp) (n : Str) (v : V) (d : Addr) (H' : Hp) : Prop := Same H H' ∧ H d = none ∧ H' d = some (.xd [(n, v)])
theorem Left.before {H0 H H' : Hp} {n : Str} {v : V} {d : Addr} (s : Same H0 H) (h : Left H n v d H') : Left H0 n v d H' := ⟨s.trans h.1, s.free h.2.1, h.2.2⟩
theorem raise1 {K : PySem.W.Frag} {C fI a : Addr} {H : Hp} {n : Str} {v : V} {Q : XK} (T : OexG K C fI) (no : PySem.W.findIn K (.ref C) n = some none) (na : H a = none) (q : ∀ d H', Left H n v d H' → Q (.ref C) (some d) H') :
    spR1 K n [.ref a, v] (upd H a (exo a C none)) (fun u H2 => u = .non ∧ ∃ (d : Addr) (fs : List (Str × V)), H2 a = some (exo a C (some d)) ∧ H2 d = some (exd d fs) ∧ H d = none ∧ Q (.ref C) (some d) (upd (del H2 a) d (.xd fs))) (fun _ _ _ => False) := by
  refine ⟨a, C, fI, v, rfl, T, no, upd_same, fun H' d sb e1 e2 nd ne => ⟨rfl, d, _, e1, e2, ?_, q _ _ ⟨fun b o hb => ?_, ?_, upd_same⟩⟩⟩
  · rw [upd_ne ne] at nd
    exact nd
  · have hb1 : b ≠ a := ne_of_none hb na
    rw [upd_ne ne] at nd
    rw [upd_ne (ne_of_none hb nd), del_ne hb1]
    exact sb b o hb1 (by rw [upd_ne hb1]; exact hb)
  · rw [upd_ne ne] at nd
    exact nd
structure Er (P : Program) (w : World) (K : PySem.W.Frag) (mg : Str → Option Value) (base : Heap) (x n : Str) (C fI : Addr) (fd : FuncData) : Prop where
  g : mg x = some (.ref C)
  o : OexG K C fI
  no : PySem.W.findIn K (.ref C) n = some none
  F : FnOk P w K mg base CX0 1 fI fd ["self", n] (spR1 K n)
  b : Binds K fd ["self", n] []
theorem all_some {α : Type} : ∀ rs : List (Option α), (∀ j, j < rs.length → ∃ s, rs[j]? = some (some s)) → ∃ ss : List α, rs = ss.map some
  | [], _ => ⟨[], rfl⟩
  | r :: rs, h => by
    obtain ⟨s, e⟩ := h 0 (Nat.zero_lt_succ _)
    obtain ⟨ss, rfl⟩ := all_some rs fun j hj => h (j + 1) (Nat.succ_lt_succ hj)
    cases e
    exact ⟨s :: ss, rfl⟩
section
variable {P : Program} {w : World} {K : PySem.W.Frag} {mg : Str → Option Value} {base : Heap}
end
end Rw

/-! ### rows made, added, listed -/
namespace Rw
open PySem PySem.Spec PyProof.Rows L2
theorem passX {P : Program} {w : World} {K : PySem.W.Frag} {mg : Str → Option Value} {base : Heap} {N : List Str} {q : Str} {sc : Scope} {f : Addr} {cdv : Value} {A : Around} {outer : List Env} {s : Shared} {H : Hp} {E : XK} :
    Passes (L2.CX P w) (cxOf (L2.CX P w) P w K mg base N q sc f cdv A outer s H E) E := passes_call (takes_of rfl rfl rfl rfl) fun _ _ _ _ h => h
theorem but_of {x : Addr} {H H' : Hp} (s : Same H H') : SameBut x H H' := fun b o _ e => s b o e
theorem SameBut.trans {x : Addr} {H H1 H2 : Hp} (a : SameBut x H H1) (b : SameBut x H1 H2) : SameBut x H H2 := fun c o n e => b c o n (a c o n e)
theorem but_upd {x : Addr} {H : Hp} {u : HO} : SameBut x H (upd H x u) := fun b o n e => by
  rw [upd_ne n]
  exact e
theorem ne_of_ins {H : Hp} {x C dx a : Addr} {fs : List (Str × V)} {ys : List V} (hx : H x = some (.ins C dx fs)) (ha : H a = some (.lst ys)) : a ≠ x := fun e => by
  rw [e, hx] at ha
  cases ha
theorem sqT_but {K : PySem.W.Frag} {H H' : Hp} {x C dx a : Addr} {fs : List (Str × V)} {xs : List V} (b : SameBut x H H') (hx : H x = some (.ins C dx fs)) (h : SqT K H a xs) : SqT K H' a xs := by
  rcases h with (h | ⟨ob, h⟩) | h
  · exact .inl (.inl (b _ _ (fun e => by rw [e, hx] at h; cases h) h))
  · exact .inl (.inr ⟨ob, b _ _ (fun e => by rw [e, hx] at h; cases h) h⟩)
  · exact .inr h
section
variable {P : Program} {w : World} {K : PySem.W.Frag} {mg : Str → Option Value} {base : Heap}
end
end Rw

/-! ### rows made of tuples, added, listed -/
namespace Rw
open PySem PySem.Spec PyProof.Rows L2
theorem cat_any {K : PySem.W.Frag} {H : Hp} {a b : Addr} {xs ys : List V} {Q : VK} (ha : SqT K H a xs) (hb : SqT K H b ys) (hl : xs.length + ys.length ≤ 1000) (q : ∀ H' p, Same H H' → SqT K H' p (xs ++ ys) → Q (.ref p) H') : rCatA K (.ref a) (.ref b) H Q := by
  refine ⟨a, b, _, _, rfl, rfl, ha, hb, ?_, fun e => ?_, fun _ e => ?_, fun _ _ p np => ?_⟩
  · rw [sizeLine_eq]
    omega
  · subst e
    exact q H _ (Same.refl H) hb
  · subst e
    rw [List.append_nil] at q
    exact q H _ (Same.refl H) ha
  · exact q _ _ (same_upd np) (SqT.of upd_same)
section
variable {P : Program} {w : World} {K : PySem.W.Frag} {mg : Str → Option Value} {base : Heap}
end
end Rw

/-! ### what the law draws -/
namespace Rw
open PySem PySem.Spec PyProof.Rows L2
/-- the pool at o -/
def PoolAt (H : Hp) (o q : Addr) : Prop := ∃ (at_ : Nat) (ns : List Int), H o = some (.lst [.ref q, .int (at_ : Nat)]) ∧ q ≠ o ∧ H q = some (.lst (ns.map V.int)) ∧ ns.length ≤ 1000 ∧ ∀ n ∈ ns, 0 ≤ n ∧ n < 1000
theorem PoolAt.same {H H' : Hp} {o q : Addr} (e : Same H H') (h : PoolAt H o q) : PoolAt H' o q := let ⟨a, ns, h1, h2, h3, h4⟩ := h; ⟨a, ns, e _ _ h1, h2, e _ _ h3, h4⟩
def spPool (K : PySem.W.Frag) : Sp := fun vs H Q _ => ∃ (cell salt many : Int), vs = [.int cell, .int salt, .int many] ∧ 0 ≤ salt ∧ salt ≤ 1000000 ∧ 0 ≤ many ∧ many ≤ 400 ∧ ∀ H' o q, Same H H' → H o = none → PoolAt H' o q → Q (.ref o) H'
def spDraw (K : PySem.W.Frag) : Sp := fun vs H Q _ => ∃ (o q : Addr) (many : Int), vs = [.ref o, .int many] ∧ PoolAt H o q ∧ 1 ≤ many ∧ many ≤ 1000 ∧ ∀ H' n, SameBut o H H' → PoolAt H' o q → 0 ≤ n → n < many → Q (.int n) H'
def spPick (K : PySem.W.Frag) : Sp := fun vs H Q _ => ∃ (o q l : Addr) (xs : List V), vs = [.ref o, .ref l] ∧ PoolAt H o q ∧ l ≠ o ∧ SqL K H l xs ∧ xs ≠ [] ∧ xs.length ≤ 1000 ∧ ∀ H' x, SameBut o H H' → PoolAt H' o q → x ∈ xs → Q x H'
def spTruth (K : PySem.W.Frag) : Sp := fun vs H Q _ => ∃ a b : Bool, vs = [.bl a, .bl b] ∧ ∀ H', Same H H' → Q (.bl (decide (a = b))) H'
theorem sqL_but {K : PySem.W.Frag} {H H' : Hp} {x a : Addr} {xs : List V} (b : SameBut x H H') (n : a ≠ x) (h : SqL K H a xs) : SqL K H' a xs := by
  rcases h with (h | ⟨ob, h⟩) | h
  · exact .inl (.inl (b _ _ n h))
  · exact .inl (.inr ⟨ob, b _ _ n h⟩)
  · exact .inr h
section
variable {P : Program} {w : World} {K : PySem.W.Frag} {mg : Str → Option Value} {base : Heap}
end
end Rw

/-! ### what the law expects of a list -/
namespace Rw
open PySem PySem.Spec PyProof.Rows L2
/-- [.. for i, x in enumerate(list)] -/
theorem lc_enum {K : PySem.W.Frag} {a : Addr} {xs : List V} {g : TG} {tt : TT} {te : TE} {vs : List Nat} {σ : L2.St} {H1 : Hp} {D : Addr} {Qd : Hp → Prop} (Pv : Nat → Hp → Prop) (h0 : Pv 0 (upd H1 D (.lst []))) (hl : ∀ i H, i ≤ xs.length → Pv i H → SqL K H a xs)
    (hs : ∀ i x H T, xs[i]? = some x → Pv i H → H T = none → g (.ref T) (wipe σ vs) (upd H T (.tup [.int (i : Nat), x])) fun σ2 H2 => wipe σ2 vs = wipe σ vs ∧ tt σ2 H2 fun b H3 =>
      if b = true then te σ2 H3 fun y H4 => ∃ acc, H4 D = some (.lst acc) ∧ acc.length < sizeLine ∧ Pv (i + 1) (upd H4 D (.lst (acc ++ [y]))) else Pv (i + 1) H3) (hd : ∀ H, Pv xs.length H → Qd H) :
    ∃ W : Nat → Nat → Hp → Prop, (∃ m, W 0 m (upd H1 D (.lst []))) ∧ ∀ i m H, W i m H →
      ((Ite K a).stop i H ∧ Qd H) ∨ ((Ite K a).go i H ∧ ∃ Nx : Hp → Prop, (∀ H', Nx H' → ∃ m', m' < m ∧ W (i + 1) m' H') ∧ ∀ x H', (Ite K a).yld i H x H' → g x (wipe σ vs) H' fun σ2 H2 => wipe σ2 vs = wipe σ vs ∧ tt σ2 H2 fun b H3 =>
        if b = true then te σ2 H3 fun y H4 => ∃ acc, H4 D = some (.lst acc) ∧ acc.length < sizeLine ∧ Nx (upd H4 D (.lst (acc ++ [y]))) else Nx H3) := by
  refine ⟨fun i m H => m = xs.length - i ∧ i ≤ xs.length ∧ Pv i H, ⟨xs.length, by simp, Nat.zero_le _, h0⟩, ?_⟩
  rintro i m H ⟨rfl, hi, p⟩
  have q := hl i H hi p
  by_cases hlt : i < xs.length
  · refine .inr ⟨⟨xs, xs[i], q, by simp [hlt]⟩, Pv (i + 1), fun H' p' => ⟨xs.length - (i + 1), by omega, rfl, hlt, p'⟩, fun v H' y => ?_⟩
    obtain ⟨T, x, rfl, nT, rfl, hx⟩ := y
    exact hs i x H T (hx xs q) p nT
  · have e : i = xs.length := by omega
    subst e
    exact .inl ⟨⟨xs, q, Nat.le_refl _⟩, hd H p⟩
section
variable {P : Program} {w : World} {K : PySem.W.Frag} {mg : Str → Option Value} {base : Heap}
end
end Rw


/-! T2 -/
/-! ### repr of any data, where no repr is under way -/
namespace L2
open PySem PySem.Spec PyProof.Rows
/-- what repr(x) asks -/
def rReprD (K : PySem.W.Frag) : List V → Hp → VK → Prop := fun xs H Q => ∃ (x : V) (d : PyData), xs = [x] ∧ Dq K H x d ∧ (d.hasDict = false ∨ d = .dict []) ∧ d.showable = true ∧ d.depth ≤ 40 ∧ d.shown.length ≤ sizeLine ∧ Q (.str d.shown) H
theorem call_reprD {X : Cx} (hg : X.A.guards = some []) (hu : X.A.units + 64 < cLine) : CallR X (.builtin "repr") (rReprD X.K) := by
  intro pins s σ H xs us Q I r h
  obtain ⟨x, d, rfl, hd, hk, hs, hdep, hz, q⟩ := h
  obtain ⟨u, rfl, ru⟩ := vals1 r
  have last : ∀ {a : Addr} {as : List Addr}, u = .ref a → Reads s.heap (.ref a) d as → (d.hasDict = true → sysModules ∉ as) → wpAny (model X.prog X.w) X.A (call (.builtin "repr") [u]) (fun v s' => EP X pins σ Q v s') X.xe s := fun e rd no => by
    subst e
    exact PySem.repr_of_reads' rd hs no hg (by omega) (fun _ _ z => z) (fun h' t tk kk => ⟨.str d.shown, H, I.kept kk, ⟨_, rfl⟩, q⟩) hz
  cases hd with
  | non =>
    cases ru
    simp only [PyData.shown] at q
    exact PySem.P.repr_of_none ⟨.str _, H, I.tok _, ⟨_, rfl⟩, q⟩
  | bl b =>
    cases ru
    simp only [PyData.shown] at q
    refine PySem.P.repr_of_bool ⟨.str _, H, I.tok _, ⟨_, rfl⟩, ?_⟩
    cases b <;> exact q
  | int i =>
    obtain ⟨t, rfl⟩ := ru
    simp only [PyData.shown] at q
    exact PySem.P.repr_of_int (by simpa [PyData.showable] using hs) ⟨.str _, H, I.tok _, ⟨_, rfl⟩, q⟩
  | str y =>
    obtain ⟨t, rfl⟩ := ru
    simp only [PyData.shown] at q
    exact PySem.P.repr_of_str ⟨.str _, H, I.tok _, ⟨_, rfl⟩, q⟩ (by simpa only [PyData.shown] using hz)
  | lst hq ha =>
    have hz2 : ∀ t ∈ PyData.shownAll _, t.length ≤ sizeLine := fun t ht => Nat.le_trans (listText_mem_le ht) (by simpa only [PyData.shown] using hz)
    cases ru
    obtain ⟨its, rv, ⟨o, n, ho, hc, _, hd⟩, _⟩ := I.list hq
    obtain ⟨as, bs, hr, _⟩ := Dq.reprsAll I _ _ its ha rv (by simpa [PyData.showable] using hs) hz2
    exact last rfl (Reads.list ho hc hd hr) fun z => by
      rcases hk with k | k
      · rw [k] at z; cases z
      · cases k
  | tup hq ha =>
    have hz2 : ∀ t ∈ PyData.shownAll _, t.length ≤ sizeLine := fun t ht => Nat.le_trans (tupleText_mem_le ht) (by simpa only [PyData.shown] using hz)
    cases ru
    obtain ⟨its, rv, ⟨o, ho, hc, n, hd⟩, _⟩ := I.tuple hq
    obtain ⟨as, bs, hr, _⟩ := Dq.reprsAll I _ _ its ha rv (by simpa [PyData.showable] using hs) hz2
    exact last rfl (Reads.tuple ho hc hd hr) fun z => by
      rcases hk with k | k
      · rw [k] at z; cases z
      · cases k
  | @dic a ea =>
    cases ru
    obtain ⟨_, hsys, vs, kv, o, es, ep, h1, h2, h3⟩ := (show ObjOk X.prog X.w H s.heap a (.dK []) from I.hok a _ ea)
    cases kv
    have hes : es.toList = [] := List.eq_nil_of_length_eq_zero (by rw [PySem.Pairs.length h3.2.2.1]; rfl)
    refine last rfl (Reads.dict (kvs := []) h1 h2.1 h3.1 (by rw [hes]; exact .nil) (by rw [hes]; exact .nil)) fun _ z => ?_
    rcases List.mem_cons.mp z with z | z
    · rw [← z] at hsys
      simp at hsys
    · exact absurd z List.not_mem_nil
end L2
/-! ### static methods off their class -/
namespace L2
open PySem PySem.Spec PyProof.Rows
/-- C.m is a staticmethod: its record at p, its def at g -/
structure SMet (K : PySem.W.Frag) (C : Addr) (m : Str) (p g : Addr) : Prop where
  rd : PySem.W.readsIn K C (.type "type") = true
  ga : PySem.W.specialIn K (.ref C) "__getattribute__" = some (some (.builtin "type.__getattribute__"))
  at_ : PySem.W.findCls K (.ref C) (.type "type") m = some (.get (.builtin "staticmethod.__get__") (.ref p) .none (.ref C))
  rc : ∃ rest, PySem.W.recIn K p "staticmethod" = some (.ref g :: rest)
  kp : PySem.W.keepIn K (.ref g) = true
def tSMeth (C : Addr) (sp : Sp) (E : St → XK) (ta : TE) (t : TA) : TE := fun σ H Q => ta σ H fun x H1 => x = .ref C ∧ t σ H1 fun vs H2 => sp vs H2 Q (E σ)
section
variable {X : Cx} {pins : List (Addr × Obj)} {σ : St} {H : Hp} {s : Shared} {C p g : Addr} {m : Str} {pl : Sem Bool}
theorem getmethsm_ok {Q : Value × List Value → Shared → Prop} {A : Around} {E : Value → Shared → Prop} (I : Inv X pins σ H s) (k : SMet X.K C m p g) (h : ∀ s', Inv X pins σ H s' → Q (.ref g, []) s') : wpAny (model X.prog X.w) A (getMethod (.ref C) m pl) Q E s := by
  obtain ⟨rest, hp⟩ := k.rc
  refine PySem.W.method_cls I.kIn k.ga (PySem.W.cls_bind I.kIn k.rd k.at_ (wpAny_call (PySem.W.sm_get (s := { s with toks := s.toks + 1 }) I.kIn hp (PySem.W.handed_on rfl ?_))))
  exact h _ (I.tok _)
theorem run_fnRS {CX : CXT} {k : Nat} {sp : Sp} {E : XK} {Q : VK} {us : List Value} {vs : List V} (F : FnR X.prog X.w X.K X.mg X.base CX k g sp) (hr : Room k X.A) (hx : PassesAt CX X σ E) (I : Inv X pins σ H s) (r : Vals vs us) (h : sp vs H Q E) :
    wpAny (model X.prog X.w) X.A (call (.ref g) us) (EP X pins σ Q) X.xe s := by
  refine wpAny_call (codeAny_mono (F X.A X.stack s H us vs Q E hr I.env0 r h) fun r s' hq => ?_)
  cases r with
  | error e => exact hx pins H s e s' I hq
  | ok fl =>
    cases fl with
    | ret u => exact I.after hq
    | next => exact False.elim hq
    | brk => exact False.elim hq
    | cont => exact False.elim hq
variable {CX : CXT} {k : Nat} {sp : Sp} {E : St → XK} {o e : Expr} {es : List Expr} {ta : TE} {t : TA} {pos apos : Pos}
theorem pe_smeth (he : PE X o ta) (c : SMet X.K C m p g) (F : FnR X.prog X.w X.K X.mg X.base CX k g sp) (hr : Room k X.A) (hx : ∀ σ, PassesAt CX X σ (E σ)) (ha : PA X (e :: es) t)
    (hst : starEach (e :: es) X.env = (false, eval e X.env) :: starEach es X.env := by rfl) (hpl : (backTo pos (starEach es X.env)).any (·.1) = false := by rfl)
    (ht : eval (.Call (.Attribute o m apos) (e :: es) [] pos) X.env = (do
      let v ← eval o X.env
      standAt apos.atName
      let (f, first) ← holding [v] (getMethod v m pl)
      callWith pos f first (backTo pos (starEach (e :: es) X.env)) (backToKw pos (keywordEach [] X.env))) := by rfl) :
    PE X (.Call (.Attribute o m apos) (e :: es) [] pos) (tSMeth C sp E ta t) := by
  refine ⟨fun pins s σ H Q I h => ?_⟩
  refine PySem.W.methodCall_KW (pl := pl) (thn (he.run pins s σ H _ I h) fun u s1 ⟨x, H1, I1, rx, ex, q⟩ => ?_) ht
  subst ex
  obtain rfl : u = Value.ref C := rx
  refine getmethsm_ok I1 c fun s2 I2 => ?_
  exact PySem.W.callWith_K (h₀ := X.base) I2.ok.mod.kin c.kp (thn (ha.run pos pins s2 σ H1 _ I2 q) fun us s3 ⟨vs, H2, I3, rv, q2⟩ => ⟨I3.kIn, run_fnRS F hr (hx σ) I3 rv q2⟩) hst hpl
end
/-! ### a def that is called where no repr is under way -/
section
variable {X : Cx} {CX : CXT} {k : Nat} {f : Addr} {fd : FuncData} {ps : List Str} {sp : Sp} {E : XK} {x : Str} {e : Expr} {es : List Expr} {t : TA} {p pos : Pos}
theorem pe_callG (F : FnOkG X.prog X.w X.K X.mg X.base CX k f fd ps sp) (free : X.A.guards = some []) (hr : Room k X.A) (hg : Gl X x) (hm : X.mg x = some (.ref f)) (hk : PySem.W.keepIn X.K (.ref f) = true) (hb : Binds X.K fd ps []) (hx : Passes CX X E)
    (ha : PA X (e :: es) t) (hdb : (x == ("__debug__" : Str)) = false := by decide) (he : starEach (e :: es) X.env = (false, eval e X.env) :: starEach es X.env := by rfl) (hpl : (backTo pos (starEach es X.env)).any (·.1) = false := by rfl) :
    PE X (.Call (.Name x p) (e :: es) [] pos) (tCall sp [] E t) := by
  refine ⟨fun pins s σ H Q I h => ?_⟩
  refine wpAny_Call_Name_kw (ld_glob I hg hm ?_ hdb)
  refine PySem.W.callWith_K (h₀ := X.base) I.ok.mod.kin hk (thn (ha.run pos pins s σ H _ I h) fun us s1 ⟨vs, H1, I1, r, q⟩ => ⟨I1.kIn, ?_⟩) he hpl
  have q2 : sp (vs ++ []) H1 Q E := q
  rw [List.append_nil] at q2
  have many : (us ++ []).length = ps.length := by rw [List.append_nil, ← r.length]; exact F.len _ _ _ _ q2
  have bind := hb s1 us I1.kIn many
  rw [List.append_nil] at bind
  refine wpAny_call (codeAny_mono (F.run X.A X.stack s1 H1 ⟨us, []⟩ us vs Q E free hr I1.env0 bind r q2) fun r s' hq => ?_)
  cases r with
  | error er => exact hx pins σ H1 s1 er s' I1 hq
  | ok fl =>
    cases fl with
    | ret u => exact I1.after hq
    | next => exact False.elim hq
    | brk => exact False.elim hq
    | cont => exact False.elim hq
end
end L2

/-! ### names of one kind -/
namespace L2
open PySem PySem.Spec PyProof.Rows
theorem ix_tupK {X : Cx} {K : PySem.W.Frag} (hK : X.K = K) : IxR X (rIxT K) := by
  subst hK
  exact ix_tup
theorem ix_listK {X : Cx} {K : PySem.W.Frag} (hK : X.K = K) : IxR X (rIxL K) := by
  subst hK
  exact ix_list
theorem ix_kdictK {X : Cx} {K : PySem.W.Frag} {w : World} (hK : X.K = K) (hw : X.w = w) : IxR X (rIxD K w) := by
  subst hK hw
  exact ix_kdict
end L2
namespace Rw
open PySem PySem.Spec PyProof.Rows L2
section
variable {P : Program} {w : World} {K : PySem.W.Frag} {mg : Str → Option Value} {base : Heap}
end
end Rw

/-! ### a method called within a try -/
namespace L2
open PySem PySem.Spec PyProof.Rows
def tMethT (C : Addr) (m : Str) (sp : Sp) (E : St → XK) (ta : TE) (t : TA) : TE := fun σ H Q => ta σ H fun x H1 => ∃ (a dx : Addr) (fs : List (Str × V)), x = .ref a ∧ H1 a = some (.ins C dx fs) ∧ fs.lookup m = none ∧ t σ H1 fun vs H2 => sp (x :: vs) H2 Q (E σ)
section
variable {X : Cx} {CX : CXT} {k : Nat} {f C : Addr} {fd : FuncData} {m : Str} {ps : List Str} {sp : Sp} {E : St → XK} {o e : Expr} {es : List Expr} {ta : TE} {t : TA} {apos pos : Pos} {pl : Sem Bool}
theorem pe_methT (he : PE X o ta) (c : Cls X.K C) (hm : Meth X.K C m f) (F : FnOk X.prog X.w X.K X.mg X.base CX k f fd ps sp) (hr : Room k X.A) (hb : Binds X.K fd ps []) (hx : ∀ σ, PassesAt CX X σ (E σ)) (ha : PA X (e :: es) t)
    (hst : starEach (e :: es) X.env = (false, eval e X.env) :: starEach es X.env := by rfl) (hpl : (backTo pos (starEach es X.env)).any (·.1) = false := by rfl)
    (ht : eval (.Call (.Attribute o m apos) (e :: es) [] pos) X.env = (do
      let v ← eval o X.env
      standAt apos.atName
      let (f, first) ← holding [v] (getMethod v m pl)
      callWith pos f first (backTo pos (starEach (e :: es) X.env)) (backToKw pos (keywordEach [] X.env))) := by rfl) : PE X (.Call (.Attribute o m apos) (e :: es) [] pos) (tMethT C m sp E ta t) := by
  refine ⟨fun pins s σ H Q I h => PySem.W.methodCall_KW (pl := pl) (thn (he.run pins s σ H _ I h) fun u s1 ⟨x, H1, I1, rx, a, dx, fs, ex, ea, l, q⟩ => ?_) ht⟩
  subst ex
  obtain rfl : u = Value.ref a := rx
  refine getmeth_ok I1 ea c hm l (PySem.W.callWith_K (first := [.ref a]) (h₀ := X.base) I1.ok.mod.kin hm.kp (thn (ha.run pos pins s1 σ H1 _ I1 q) fun us s2 ⟨vs, H2, I2, r, q2⟩ => ⟨I2.kIn, ?_⟩) hst hpl)
  exact run_fnS (us := .ref a :: us) (vs := .ref a :: vs) F hr hb (hx σ) I2 (.cons rfl r) q2
theorem call_reprDK {K : PySem.W.Frag} (hK : X.K = K) (hg : X.A.guards = some []) (hu : X.A.units + 64 < cLine) : CallR X (.builtin "repr") (rReprD K) := by
  subst hK
  exact call_reprD hg hu
theorem call_len_K {K : PySem.W.Frag} (hK : X.K = K) : CallR X (.builtin "len") (fun xs H Q => ∃ p ys, xs = [.ref p] ∧ (SqL K H p ys ∨ SqT K H p ys) ∧ Q (.int ys.length) H) := by
  subst hK
  exact call_len_seq
end
end L2
/-! ### what the law hears of rows by words -/
namespace Rw
open PySem PySem.Spec PyProof.Rows L2
theorem xf_of {K : PySem.W.Frag} {C fI : Addr} (T : OexG K C fI) : XfC K C := ⟨T.ga, T.gg, T.exC, T.hdC⟩
section
variable {P : Program} {w : World} {K : PySem.W.Frag} {mg : Str → Option Value} {base : Heap}
end
end Rw

/-! ### own + within a try -/
namespace L2
open PySem PySem.Spec PyProof.Rows
def tOpS (r : XK → R2) (E : St → XK) (ta tb : TE) : TE := fun σ H Q => ta σ H fun x H1 => tb σ H1 fun y H2 => r (E σ) x y H2 Q
section
variable {X : Cx} {CX : CXT} {k : Nat} {f g C : Addr} {fd : FuncData} {ps : List Str} {sp : Sp} {E : St → XK} {a b : Expr} {ta tb : TE} {pos : Pos}
theorem pe_addTS {K : PySem.W.Frag} (hK : X.K = K) (A : AddC K C f g) (F : FnOk X.prog X.w X.K X.mg X.base CX k f fd ps sp) (hr : Room k X.A) (hb : Binds X.K fd ps []) (hx : ∀ σ, PassesAt CX X σ (E σ)) (ha : PE X a ta) (hb' : PE X b tb) : PE X (.BinOp a .Add b pos) (tOpS (rAddT K C sp) E ta tb) := by
  subst hK
  refine ⟨fun pins s σ H Q I h => ?_⟩
  refine wpAny_BinOp (binT (R := fun x y H2 => rAddT X.K C sp (E σ) x y H2 Q) ha hb' I h fun v u s2 x y H2 I2 rx ry q => ?_)
  obtain ⟨a, dx, fs, T, rfl, ha, ty, ⟨⟨fo, ro, h1, h2⟩, hsub⟩, q⟩ := q
  cases (show v = Value.ref a from rx)
  obtain ⟨P, Z, pz, hne⟩ := kit_of I2 ry ty
  obtain ⟨mA, O, _⟩ := ins_get I2.hok ha
  obtain ⟨od, J, _⟩ := O.look
  refine PySem.LwX.add_own I2.kIn J (fun M => Z.ty M _ I2.kIn pz) A.hc A.hs A.hf A.hr (.inr ⟨_, rfl⟩) h1 h2 hsub ?_
  exact thn (run_fnS (us := [.ref a, u]) (vs := [.ref a, y]) F hr hb (hx σ) I2 (.cons rfl (.cons ry .nil)) q) fun _ _ z => back_ref z
theorem pe_raddTS {K : PySem.W.Frag} (hK : X.K = K) (A : AddC K C f g) (F : FnOk X.prog X.w X.K X.mg X.base CX k g fd ps sp) (hr : Room k X.A) (hb : Binds X.K fd ps []) (hx : ∀ σ, PassesAt CX X σ (E σ)) (ha : PE X a ta) (hb' : PE X b tb) : PE X (.BinOp a .Add b pos) (tOpS (rRaddT K C sp) E ta tb) := by
  subst hK
  refine ⟨fun pins s σ H Q I h => ?_⟩
  refine wpAny_BinOp (binT (R := fun x y H2 => rRaddT X.K C sp (E σ) x y H2 Q) ha hb' I h fun v u s2 x y H2 I2 rx ry q => ?_)
  obtain ⟨a, dx, fs, T, rfl, ha, ty, ⟨fo, ro, h1, h2, h3⟩, q⟩ := q
  cases (show u = Value.ref a from ry)
  obtain ⟨P, Z, pz, hne⟩ := kit_of I2 rx ty
  obtain ⟨mA, O, _⟩ := ins_get I2.hok ha
  obtain ⟨od, J, _⟩ := O.look
  refine PySem.LwX.radd_own I2.kIn J (fun M => Z.ty M _ I2.kIn pz) A.hc A.hs A.hr A.hg h1 h2 h3 ?_
  exact thn (run_fnS (us := [.ref a, v]) (vs := [.ref a, x]) F hr hb (hx σ) I2 (.cons rfl (.cons rx .nil)) q) fun _ _ z => back_ref z
theorem call_tuple_K {K : PySem.W.Frag} (hK : X.K = K) : CallR X (.type "tuple") (fun xs H Q => ∃ p ys, xs = [.ref p] ∧ (SqL K H p ys ∧ (∀ l, H l = none → Q (.ref l) (upd H l (.tup ys))) ∨ SqT K H p ys ∧ Q (.ref p) H)) := by
  subst hK
  exact call_tuple_of
end
end L2
/-! ### what is compared -/
namespace Rw
open PySem PySem.Spec PyProof.Rows L2
def vD : V → PyData
  | .int i => .int i
  | _ => .none
theorem ints_of_cut (ns : List Int) (m : Int) (k : Nat) : ∃ ms : List Int, cutV (ns.map V.int) none (some m) ++ (List.replicate k [V.int 7]).flatten = ms.map V.int ∧ ms.length ≤ ns.length + k := by
  refine ⟨((ns.drop (HT.sIx ns.length 0 none)).take (HT.sIx ns.length ns.length (some m) - HT.sIx ns.length 0 none)) ++ List.replicate k 7, ?_, ?_⟩
  · unfold cutV
    rw [List.map_append, List.length_map, List.map_take, List.map_drop]
    congr 1
    induction k with
    | zero => rfl
    | succ k ih => rw [List.replicate_succ, List.flatten_cons, ih]; rfl
  · rw [List.length_append, List.length_replicate, List.length_take, List.length_drop]
    omega
theorem shaped_ints (ns : List Int) : SeqAt.shaped (.list (ns.map PyData.int)) = true := by
  have a : PyData.canLayAll0 (ns.map PyData.int) = true := by
    induction ns with
    | nil => rfl
    | cons n r ih => simp only [List.map, PyData.canLayAll0, PyData.canLay0, Bool.true_and]; exact ih
  have b : PyData.depthAll (ns.map PyData.int) = 0 := by
    induction ns with
    | nil => rfl
    | cons n r ih =>
      simp only [List.map, PyData.canLayAll0, PyData.canLay0, Bool.true_and] at a
      simp only [List.map, PyData.depthAll, PyData.depth, ih a]
      rfl
  unfold SeqAt.shaped
  simp only [PyData.canLay0, PyData.depth, a, b]
  decide
theorem dp_ints {K : PySem.W.Frag} {H : Hp} : ∀ ns : List Int, DpAll K H (ns.map V.int) (ns.map PyData.int)
  | [] => .nil
  | _ :: r => .cons (.int _) (dp_ints r)
theorem nil_in {σ : L2.St} {H : Hp} {k : List V → Hp → Prop} (h : k [] H) : tNil σ H k := h
theorem cons_in {te : TE} {t : TA} {σ : L2.St} {H : Hp} {k : List V → Hp → Prop} (h : te σ H fun x H1 => t σ H1 fun xs H2 => k (x :: xs) H2) : tCons te t σ H k := h
theorem c_in {v : V} {σ : L2.St} {H : Hp} {k : V → Hp → Prop} (h : k v H) : tC v σ H k := h
theorem seq_in {t u : TS} {D : Ends} {σ : L2.St} {H : Hp} (h : t { D with nx := u D } σ H) : tSeq t u D σ H := h
theorem if_in {c : TT} {t u : TS} {D : Ends} {σ : L2.St} {H : Hp} (h : c σ H fun b H1 => if b = true then t D σ H1 else u D σ H1) : tIfS c t u D σ H := h
theorem or_in {t u : TT} {σ : L2.St} {H : Hp} {Q : Bool → Hp → Prop} (h : t σ H fun c H1 => if c = true then Q true H1 else u σ H1 Q) : tOr t u σ H Q := h
theorem test_in {t : TE} {σ : L2.St} {H : Hp} {Q : Bool → Hp → Prop} (h : t σ H fun x H' => ∃ k, x = .bl k ∧ Q k H') : tTest t σ H Q := h
theorem op_in {r : R2} {ta tb : TE} {σ : L2.St} {H : Hp} {Q : VK} (h : ta σ H fun x H1 => tb σ H1 fun y H2 => r x y H2 Q) : tOp r ta tb σ H Q := h
theorem call_in {sp : Sp} {E : XK} {t : TA} {σ : L2.St} {H : Hp} {Q : VK} (h : t σ H fun vs H1 => sp (vs ++ []) H1 Q E) : tCall sp [] E t σ H Q := h
theorem asg_in {te : TE} {g : TG} {D : Ends} {σ : L2.St} {H : Hp} (h : te σ H fun x H1 => g x σ H1 D.nx) : tAsg te g D σ H := h
theorem name_in {i : Nat} {v : V} {σ : L2.St} {H : Hp} {Q : L2.St → Hp → Prop} (h : Q (σ.set i (some v)) H) : gName i v σ H Q := h
theorem ops_in {r : XK → R2} {E : L2.St → XK} {ta tb : TE} {σ : L2.St} {H : Hp} {Q : VK} (h : ta σ H fun x H1 => tb σ H1 fun y H2 => r (E σ) x y H2 Q) : tOpS r E ta tb σ H Q := h
end Rw

/-! ### data stands where the heap stands -/
namespace Rw
open PySem PySem.Spec PyProof.Rows L2
section
variable {K : PySem.W.Frag} {H H' : Hp}
theorem sqT_same {a : Addr} {xs : List V} (s : Same H H') (h : SqT K H a xs) : SqT K H' a xs := by
  rcases h with (h | ⟨o, h⟩) | h
  · exact .inl (.inl (s _ _ h))
  · exact .inl (.inr ⟨o, s _ _ h⟩)
  · exact .inr h
mutual
theorem dq_same (s : Same H H') : ∀ (d : PyData) (v : V), Dq K H v d → Dq K H' v d
  | .none, _, h => by cases h; exact .non
  | .bool _, _, h => by cases h; exact .bl _
  | .int _, _, h => by cases h; exact .int _
  | .str _, _, h => by cases h; exact .str _
  | .list ds, _, h => by
    cases h with
    | lst h1 h2 => exact .lst (s.seq h1) (dqs_same s ds _ h2)
  | .tuple ds, _, h => by
    cases h with
    | tup h1 h2 => exact .tup (sqT_same s h1) (dqs_same s ds _ h2)
  | .dict _, _, h => by
    cases h with
    | dic h1 => exact .dic (s _ _ h1)
theorem dqs_same (s : Same H H') : ∀ (ds : List PyData) (vs : List V), DqAll K H vs ds → DqAll K H' vs ds
  | [], _, h => by cases h; exact .nil
  | d :: ds, _, h => by
    cases h with
    | cons h1 h2 => exact .cons (dq_same s d _ h1) (dqs_same s ds _ h2)
end
end
end Rw
/-! ### x in a tuple of data -/
namespace L2
open PySem PySem.Spec PyProof.Rows
def rInTD (K : PySem.W.Frag) : R2 := fun x y H Q => ∃ d ds, Dp K H x d ∧ Dp K H y (.tuple ds) ∧ SeqAt.shaped d = true ∧ SeqAt.shaped (.tuple ds) = true ∧ Q (.bl (ds.any fun z => PyData.eqv z d)) H
theorem op_inTD {X : Cx} {K : PySem.W.Frag} (hK : X.K = K) (hu : X.A.units + 65 < cLine) : OpR X (compareOp .In) (rInTD K) := by
  subst hK
  intro pins s σ H x y v u Q I rx ry h
  obtain ⟨d, ds, hd, he, sd, se, q⟩ := h
  obtain ⟨as, r1⟩ := Dp.reads I d x v hd rx
  obtain ⟨bs, r2⟩ := Dp.reads I (.tuple ds) y u he ry
  exact SeqAt.in_tuple_reads r2 r1 (SeqAt.canLay_of_shaped se) (SeqAt.canLay_of_shaped sd) (room_in_shaped sd hu) ⟨.bl _, H, I, rfl, q⟩
end L2
/-! ### a row's own operators -/
namespace Rw
open PySem PySem.Spec PyProof.Rows L2
section
variable {P : Program} {w : World} {K : PySem.W.Frag} {mg : Str → Option Value} {base : Heap}
end
end Rw

/-! ### a row without a step, beginnings, equal rows -/
namespace Rw
open PySem PySem.Spec PyProof.Rows L2
theorem cut_head (xs : List V) (i : Nat) (hi : i ≤ xs.length) : cutV xs none (some (i : Int)) = xs.take i := by
  show (xs.drop 0).take (HT.sIx xs.length xs.length (some (i : Int)) - 0) = _
  rw [HT.sIx_nat, List.drop_zero, Nat.min_eq_left hi]
  rfl
/-- t[:i] -/
theorem head_tup {K : PySem.W.Frag} {H : Hp} {p : Addr} {xs : List V} {i : Nat} {Q : VK} (h : SqT K H p xs) (q : ∀ H' u, Same H H' → SqT K H' u (xs.take i) → Q (.ref u) H') : rSlA K (.ref p) none (some (i : Int)) H Q := by
  refine ⟨p, _, rfl, h, fun c => ?_, fun c u nu => ?_⟩
  · have c2 := c.2
    rw [HT.sIx_nat] at c2
    have z := q H p (Same.refl H)
    rw [List.take_of_length_le (by omega)] at z
    exact z h
  · refine q _ _ (same_upd nu) (SqT.of ?_)
    rw [upd_same]
    show some (HO.tup ((xs.drop 0).take (HT.sIx xs.length xs.length (some (i : Int)) - 0))) = _
    rw [HT.sIx_nat, List.drop_zero, Nat.sub_zero]
    congr 2
    by_cases hi : i ≤ xs.length
    · rw [Nat.min_eq_left hi]
    · rw [Nat.min_eq_right (by omega), List.take_of_length_le (Nat.le_refl _), List.take_of_length_le (by omega)]
section
variable {P : Program} {w : World} {K : PySem.W.Frag} {mg : Str → Option Value} {base : Heap}
end
/-! two rows -/
section
variable {P : Program} {w : World} {K : PySem.W.Frag} {mg : Str → Option Value} {base : Heap}
end
end Rw

/-! ### what stands, stands behind the first look at a name -/
namespace Nm
open PySem PySem.Spec PyProof.Rows L2
section
variable {K : PySem.W.Frag} {C : Addr} {n : Str} {v : Value} {H : Hp}
end
theorem op_eqDK {X : Cx} {K : PySem.W.Frag} (hK : X.K = K) (hu : X.A.units + 64 < cLine) : OpR X (compareOp .Eq) (rEqD K) := by
  subst hK
  exact op_eqD hu
theorem op_neDK {X : Cx} {K : PySem.W.Frag} (hK : X.K = K) (hu : X.A.units + 64 < cLine) : OpR X (compareOp .NotEq) (rNeD K) := by
  subst hK
  exact op_neD hu
end Nm
/-! ### a row's own == -/
namespace Rw
open PySem PySem.Spec PyProof.Rows L2
section
variable {P : Program} {w : World} {K : PySem.W.Frag} {mg : Str → Option Value} {base : Heap}
end
end Rw

/-! ### the law's kinds, and what it takes as held -/
namespace Rw
open PySem PySem.Spec PyProof.Rows L2
theorem sqT_upd {K : PySem.W.Frag} {H : Hp} {D p : Addr} {as xs : List V} {u : HO} (e : H D = some (.lst as)) (h : SqT K H p xs) : SqT K (upd H D u) p xs := by
  rcases h with (h | ⟨o, h⟩) | h
  · refine .inl (.inl ?_)
    rw [upd_ne]
    · exact h
    · rintro rfl
      rw [e] at h
      cases h
  · refine .inl (.inr ⟨o, ?_⟩)
    rw [upd_ne]
    · exact h
    · rintro rfl
      rw [e] at h
      cases h
  · exact .inr h
section
variable {P : Program} {w : World} {K : PySem.W.Frag} {mg : Str → Option Value} {base : Heap}
end
end Rw

/-! ### the rows that the law draws: the def -/
namespace Rw
open PySem PySem.Spec PyProof.Rows L2
theorem ifS_via {tc : TT} {t u : TS} {D : Ends} {σ : L2.St} {H : Hp} (F : Bool → Hp → Prop) (hc : ∀ Q : Bool → Hp → Prop, (∀ b H2, F b H2 → Q b H2) → tc σ H Q) (h : ∀ b H2, F b H2 → if b = true then t D σ H2 else u D σ H2) : tIfS tc t u D σ H := hc _ h
theorem seqS_in {t u : TS} {D : Ends} {σ : L2.St} {H : Hp} (h : t { D with nx := u D } σ H) : tSeq t u D σ H := h
section
variable {P : Program} {w : World} {K : PySem.W.Frag} {mg : Str → Option Value} {base : Heap}
end
end Rw

/-! ### append within a try -/
namespace L2
open PySem PySem.Spec PyProof.Rows
def rTry (t : TS) : TS := t
theorem ps_named {X : Cx} {st : Stmt} {t : TS} (h : PS X st t) : PS X st (rTry t) := h
theorem rTry_in {t : TS} {D : Ends} {σ : St} {H : Hp} (h : t D σ H) : rTry t D σ H := h
theorem pe_appendK {X : Cx} {K : PySem.W.Frag} (hK : X.K = K) {o e : Expr} {apos cpos : Pos} {to : TE} {t : TA} (ho : PE X o to) (ha : PA X [e] t) (hbase : attributeBase o "append" X.env (eval o X.env) = eval o X.env := by rfl)
    (hfew : ((backTo cpos (starEach [e] X.env)).all (fun x => !x.1) && (backToKw cpos (keywordEach [] X.env)).all (fun x => x.1.isSome) && decide ([e].length + ([] : List Keyword).length + (if ([] : List Keyword).isEmpty then 0 else 1) < 30)) = true := by rfl)
    (hline : (apos.endLine == cpos.line) = true := by rfl) (hs : starEach [e] X.env = (false, eval e X.env) :: starEach [] X.env := by rfl) (hplain : (backTo cpos (starEach [] X.env)).any (·.1) = false := by rfl) :
    PE X (.Call (.Attribute o "append" apos) [e] [] cpos) (tBM K "list" rAppend to t) := by
  subst hK
  exact pe_bm PySem.F.plainAttrs_list PySem.F.slot_list_append PySem.F.type_list_append mt_append ho ha hbase hfew hline hs hplain
section
variable {X : Cx} {CX : CXT} {k : Nat} {f g C : Addr} {fd : FuncData} {ps : List Str} {sp : Sp} {E : St → XK} {a b : Expr} {ta tb : TE} {pos : Pos}
end
end L2
/-! ### what is added -/
namespace Rw
open PySem PySem.Spec PyProof.Rows L2
section
variable {P : Program} {w : World} {K : PySem.W.Frag} {mg : Str → Option Value} {base : Heap}
end
end Rw

/-! ### the rows that the law draws -/
namespace L2
open PySem PySem.Spec PyProof.Rows
theorem op_notIn_seqKK {X : Cx} {K : PySem.W.Frag} (hK : X.K = K) : OpR X (compareOp .NotIn) (rIn K true) := by
  subst hK
  exact op_notIn_seq
end L2
namespace Rw
open PySem PySem.Spec PyProof.Rows L2
section
variable {K : PySem.W.Frag} {d o q : Addr} {H0 : Hp} {wl fl : Addr} {xs : List V} {ss : List Step} {H H' : Hp}
end
end Rw

/-! ### the law -/
namespace Rw
open PySem PySem.Spec PyProof.Rows L2
theorem cut_any (xs : List V) (i : Nat) : cutV xs none (some (i : Int)) = xs.take i := by
  by_cases h : i ≤ xs.length
  · exact cut_head xs i h
  · show (xs.drop 0).take (HT.sIx xs.length xs.length (some (i : Int)) - 0) = _
    rw [HT.sIx_nat, List.drop_zero, Nat.sub_zero, Nat.min_eq_right (by omega), List.take_of_length_le (Nat.le_refl _), List.take_of_length_le (by omega)]
theorem asg_via {te : TE} {g : TG} {D : Ends} {σ : L2.St} {H : Hp} (F : V → Hp → Prop) (hc : ∀ Qx : VK, (∀ v H2, F v H2 → Qx v H2) → te σ H Qx) (h : ∀ v H2, F v H2 → g v σ H2 D.nx) : tAsg te g D σ H := hc _ h
section
variable {P : Program} {w : World} {K : PySem.W.Frag} {mg : Str → Option Value} {base : Heap}
end
end Rw


/-! M1 -/
/-! ### trees of items: what is asked of them, as plain functions -/
namespace Tr
open PySem PySem.Spec PyProof.Rows L2 Rw
abbrev D := PyData
def nameD : D → Bool
  | .str z => nameB z
  | _ => false
def isTup : D → Bool
  | .tuple _ => true
  | _ => false
def plain6 : List Str := ["start", "cancel", "set", "clear", "take", "give"]
def inner3 : List Str := ["use", "start", "test"]
def wordIn : D → Bool
  | .tuple (.str w :: _) => decide (w ∈ inner3)
  | _ => false
/-- the two tuples of a test or a choose -/
def forkOf : D → Option (List D × List D)
  | .tuple [.str w, _, .tuple x, .tuple y] => if w = "test" then some (x, y) else none
  | .tuple [.str w, .tuple x, .tuple y] => if w = "choose" then some (x, y) else none
  | _ => none
mutual
def flat : List D → List D
  | [] => []
  | d :: ds => d :: (flatk d ++ flat ds)
termination_by ds => sizeOf ds
def flatk : D → List D
  | .tuple [.str w, _, .tuple x, .tuple y] => if w = "test" then flat x ++ flat y else []
  | .tuple [.str w, .tuple x, .tuple y] => if w = "choose" then flat x ++ flat y else []
  | _ => []
termination_by d => sizeOf d
end
def forkShape (w : Str) (r : List D) : Bool :=
  match r with
  | [n, x, y] => decide (w = "test") && nameD n && isTup x && isTup y
  | [x, y] => decide (w = "choose") && isTup x && isTup y
  | _ => false
mutual
/-- is_shaped -/
def shaped : D → Nat → Bool
  | .tuple [.str w], a => decide (w = "use")
  | .tuple [.str w, n], a => decide (w ≠ "use") && decide (w ∈ plain6) && nameD n
  | .tuple [.str w, n, v], a => decide (w ≠ "use") && !decide (w ∈ plain6) && (if w = "piece" then nameD n && innerP v else decide (a < 3) && forkShape w [n, v])
  | .tuple [.str w, n, x, y], a => decide (w ≠ "use") && !decide (w ∈ plain6) && !decide (w = "piece") && decide (a < 3) && forkShape w [n, x, y]
  | _, _ => false
termination_by d => sizeOf d
/-- is_inner -/
def innerP : D → Bool
  | .tuple ds => !ds.isEmpty && !(misl ds 0).contains true && decide ((flat ds).length ≤ 4) && (flat ds).all wordIn
  | _ => false
termination_by d => sizeOf d
/-- misshapen -/
def misl : List D → Nat → List Bool
  | [], _ => []
  | d :: ds, a => (!shaped d a) :: ((if shaped d a then misk d a else []) ++ misl ds a)
termination_by ds => sizeOf ds
def misk : D → Nat → List Bool
  | .tuple [.str w, _, .tuple x, .tuple y], a => if w = "test" then misl x (a + 1) ++ misl y (a + 1) else []
  | .tuple [.str w, .tuple x, .tuple y], a => if w = "choose" then misl x (a + 1) ++ misl y (a + 1) else []
  | _, _ => []
termination_by d => sizeOf d
end
mutual
/-- the law's form -/
def lform : D → Nat → Bool
  | .tuple [.str w], a => decide (w = "use")
  | .tuple [.str w, n], a => decide (w ∈ plain6) && nameD n
  | .tuple [.str w, n, .tuple v], a => if w = "choose" then isTup n && decide (a < 3) else decide (w = "piece") && nameD n && lall v 0 && !v.isEmpty && decide ((lnum v 0).length ≤ 4)
  | .tuple [.str w, n, x, y], a => decide (w = "test") && isTup x && isTup y && nameD n && decide (a < 3)
  | _, _ => false
termination_by d => (sizeOf d, 0)
def linner : D → Nat → Bool
  | d, a => lform d a && wordIn d && lkids d a
termination_by d => (sizeOf d, 2)
def lkids : D → Nat → Bool
  | .tuple [.str w, _, .tuple x, .tuple y], a => if w = "test" then lall x (a + 1) && lall y (a + 1) else true
  | .tuple [.str w, .tuple x, .tuple y], a => if w = "choose" then lall x (a + 1) && lall y (a + 1) else true
  | _, _ => true
termination_by d => (sizeOf d, 1)
def lall : List D → Nat → Bool
  | [], _ => true
  | d :: ds, a => linner d a && lall ds a
termination_by ds => (sizeOf ds, 0)
def lnum : List D → Nat → List (D × Nat)
  | [], _ => []
  | d :: ds, a => (d, a) :: ((if lform d a then lnumk d a else []) ++ lnum ds a)
termination_by ds => (sizeOf ds, 0)
def lnumk : D → Nat → List (D × Nat)
  | .tuple [.str w, _, .tuple x, .tuple y], a => if w = "test" then lnum x (a + 1) ++ lnum y (a + 1) else []
  | .tuple [.str w, .tuple x, .tuple y], a => if w = "choose" then lnum x (a + 1) ++ lnum y (a + 1) else []
  | _, _ => []
termination_by d => (sizeOf d, 0)
end
theorem fork_none {d : D} (h : forkOf d = none) : flatk d = [] ∧ (∀ a, misk d a = []) ∧ (∀ a, lkids d a = true) ∧ ∀ a, lnumk d a = [] := by
  unfold forkOf at h
  split at h
  · split at h
    · cases h
    · next hw => exact ⟨by rw [flatk, if_neg hw], fun a => by rw [misk, if_neg hw], fun a => by rw [lkids, if_neg hw], fun a => by rw [lnumk, if_neg hw]⟩
  · split at h
    · cases h
    · next hw => exact ⟨by rw [flatk, if_neg hw], fun a => by rw [misk, if_neg hw], fun a => by rw [lkids, if_neg hw], fun a => by rw [lnumk, if_neg hw]⟩
  · next h1 h2 => 
    refine ⟨?_, fun a => ?_, fun a => ?_, fun a => ?_⟩
    · rw [flatk] <;> assumption
    · rw [misk] <;> assumption
    · rw [lkids] <;> assumption
    · rw [lnumk] <;> assumption
theorem fork_some {d : D} {x y : List D} (h : forkOf d = some (x, y)) : flatk d = flat x ++ flat y ∧ (∀ a, misk d a = misl x (a + 1) ++ misl y (a + 1)) ∧ (∀ a, lkids d a = (lall x (a + 1) && lall y (a + 1))) ∧ (∀ a, lnumk d a = lnum x (a + 1) ++ lnum y (a + 1)) ∧ sizeOf x < sizeOf d ∧ sizeOf y < sizeOf d := by
  unfold forkOf at h
  split at h
  · split at h
    · next hw =>
      cases h
      exact ⟨by rw [flatk, if_pos hw], fun a => by rw [misk, if_pos hw], fun a => by rw [lkids, if_pos hw], fun a => by rw [lnumk, if_pos hw], by simp; omega, by simp; omega⟩
    · cases h
  · split at h
    · next hw =>
      cases h
      exact ⟨by rw [flatk, if_pos hw], fun a => by rw [misk, if_pos hw], fun a => by rw [lkids, if_pos hw], fun a => by rw [lnumk, if_pos hw], by simp; omega, by simp; omega⟩
    · cases h
  · cases h
end Tr

/-! M2 -/
/-! ### the program's look at a tree and the law's are one -/
namespace Tr
open PySem PySem.Spec PyProof.Rows L2 Rw
theorem use_not_plain : ¬ (("use" : Str) ∈ plain6) := by decide +kernel
theorem piece_not_plain : ¬ (("piece" : Str) ∈ plain6) := by decide +kernel
theorem choose_not_plain : ¬ (("choose" : Str) ∈ plain6) := by decide +kernel
theorem test_not_plain : ¬ (("test" : Str) ∈ plain6) := by decide +kernel
theorem piece_use : ("piece" : Str) ≠ "use" := by decide +kernel
theorem choose_use : ("choose" : Str) ≠ "use" := by decide +kernel
theorem test_use : ("test" : Str) ≠ "use" := by decide +kernel
theorem choose_piece : ("choose" : Str) ≠ "piece" := by decide +kernel
theorem test_piece : ("test" : Str) ≠ "piece" := by decide +kernel
theorem test_choose : ("test" : Str) ≠ "choose" := by decide +kernel
/-- the four facts of lists below a size -/
structure Below (N : Nat) : Prop where
  mis : ∀ ds : List D, sizeOf ds < N → ∀ a, misl ds a = (lnum ds a).map fun p => !lform p.1 p.2
  all : ∀ ds : List D, sizeOf ds < N → ∀ a, lall ds a = (!(misl ds a).contains true && (flat ds).all wordIn)
  len : ∀ ds : List D, sizeOf ds < N → ∀ a, (misl ds a).contains true = false → (lnum ds a).map (·.1) = flat ds
theorem shaped_eq : (d : D) → Below (sizeOf d) → (a : Nat) → shaped d a = lform d a
  | .none, _, _ => by simp [shaped, lform]
  | .bool _, _, _ => by simp [shaped, lform]
  | .int _, _, _ => by simp [shaped, lform]
  | .str _, _, _ => by simp [shaped, lform]
  | .list _, _, _ => by simp [shaped, lform]
  | .dict _, _, _ => by simp [shaped, lform]
  | .tuple [], _, _ => by simp [shaped, lform]
  | .tuple (.none :: _), _, _ => by simp [shaped, lform]
  | .tuple (.bool _ :: _), _, _ => by simp [shaped, lform]
  | .tuple (.int _ :: _), _, _ => by simp [shaped, lform]
  | .tuple (.list _ :: _), _, _ => by simp [shaped, lform]
  | .tuple (.tuple _ :: _), _, _ => by simp [shaped, lform]
  | .tuple (.dict _ :: _), _, _ => by simp [shaped, lform]
  | .tuple [.str w], _, a => by rw [shaped, lform]
  | .tuple [.str w, n], _, a => by
    rw [shaped, lform]
    by_cases h : w = "use"
    · subst h
      rw [decide_eq_false use_not_plain]
      simp
    · rw [decide_eq_true h, Bool.true_and]
  | .tuple [.str w, n, v], B, a => by
    rw [shaped]
    cases v with
    | tuple v =>
      rw [lform]
      have hv : sizeOf v < sizeOf (PyData.tuple [.str w, n, .tuple v]) := by simp; omega
      by_cases h : w = "choose"
      · subst h
        rw [if_pos rfl, if_neg choose_piece, decide_eq_false choose_not_plain, decide_eq_true choose_use]
        simp [forkShape, isTup, Bool.and_comm]
      · rw [if_neg h]
        by_cases h2 : w = "piece"
        · subst h2
          rw [if_pos rfl, decide_eq_true rfl, decide_eq_false piece_not_plain, decide_eq_true piece_use, innerP, B.all v hv 0]
          cases hc : (misl v 0).contains true with
          | true => simp
          | false =>
            have e := congrArg List.length (B.len v hv 0 hc)
            rw [List.length_map] at e
            rw [e]
            cases nameD n <;> cases v.isEmpty <;> cases decide ((flat v).length ≤ 4) <;> cases (flat v).all wordIn <;> rfl
        · rw [if_neg h2, decide_eq_false h2]
          simp [forkShape, h]
    | _ => simp [lform, forkShape, isTup, innerP]
  | .tuple [.str w, n, x, y], _, a => by
    rw [shaped, lform]
    by_cases h : w = "test"
    · subst h
      rw [decide_eq_true rfl, decide_eq_false test_not_plain, decide_eq_true test_use, decide_eq_false test_piece]
      simp only [forkShape, decide_true]
      cases nameD n <;> cases isTup x <;> cases isTup y <;> cases decide (a < 3) <;> rfl
    · rw [decide_eq_false h]
      simp [forkShape, h]
  | .tuple (.str w :: n :: x :: y :: z :: r), _, _ => by simp [shaped, lform]
theorem below (N : Nat) : Below N := by
  induction N with
  | zero => exact ⟨fun _ h => absurd h (by omega), fun _ h => absurd h (by omega), fun _ h => absurd h (by omega)⟩
  | succ N ih =>
    have sm : ∀ {d : D} {ds : List D}, sizeOf (d :: ds) < N + 1 → sizeOf d ≤ N ∧ sizeOf ds < N := fun {d ds} h => by
      simp at h
      omega
    have up : ∀ d : D, sizeOf d ≤ N → Below (sizeOf d) := fun d h => ⟨fun ds hd => ih.mis ds (by omega), fun ds hd => ih.all ds (by omega), fun ds hd => ih.len ds (by omega)⟩
    have sh : ∀ d : D, sizeOf d ≤ N → ∀ a, shaped d a = lform d a := fun d h a => shaped_eq d (up d h) a
    refine ⟨fun ds h a => ?_, fun ds h a => ?_, fun ds h a => ?_⟩
    · cases ds with
      | nil => rw [misl, lnum]; rfl
      | cons d ds =>
        obtain ⟨h1, h2⟩ := sm h
        rw [misl, lnum, List.map_cons, List.map_append, sh d h1 a, ih.mis ds h2 a]
        congr 2
        split
        · cases hf : forkOf d with
          | none => rw [(fork_none hf).2.1, (fork_none hf).2.2.2]; rfl
          | some p =>
            obtain ⟨x, y⟩ := p
            obtain ⟨_, f2, _, f4, s1, s2⟩ := fork_some hf
            rw [f2, f4, List.map_append, ih.mis x (by omega), ih.mis y (by omega)]
        · rfl
    · cases ds with
      | nil => rw [misl, lall, flat]; rfl
      | cons d ds =>
        obtain ⟨h1, h2⟩ := sm h
        rw [misl, lall, flat, linner, sh d h1 a, ih.all ds h2 a]
        have key : lform d a = true → lkids d a = (!(misk d a).contains true && (flatk d).all wordIn) := fun _ => by
          cases hf : forkOf d with
          | none => rw [(fork_none hf).1, (fork_none hf).2.1, (fork_none hf).2.2.1]; rfl
          | some p =>
            obtain ⟨x, y⟩ := p
            obtain ⟨f1, f2, f3, _, s1, s2⟩ := fork_some hf
            rw [f1, f2, f3, ih.all x (by omega), ih.all y (by omega)]
            simp only [List.contains_eq_any_beq, List.any_append, List.all_append]
            cases (misl x (a + 1)).any fun z => true == z <;> cases (misl y (a + 1)).any (fun z => true == z) <;> cases (flat x).all wordIn <;> cases (flat y).all wordIn <;> rfl
        cases hl : lform d a with
        | false => simp
        | true =>
          rw [key hl]
          simp only [List.contains_eq_any_beq, List.any_append, List.all_append, List.any_cons, List.all_cons, if_true]
          cases (misk d a).any (fun z => true == z) <;> cases (misl ds a).any (fun z => true == z) <;> cases (flatk d).all wordIn <;> cases (flat ds).all wordIn <;> cases wordIn d <;> rfl
    · cases ds with
      | nil => intro _; rw [lnum, flat]; rfl
      | cons d ds =>
        obtain ⟨h1, h2⟩ := sm h
        rw [misl, lnum, flat, sh d h1 a]
        cases hl : lform d a with
        | false => simp
        | true =>
          intro hc
          simp only [List.contains_eq_any_beq, List.any_append, List.any_cons, if_true] at hc
          have hc1 : (misk d a).any (fun z => true == z) = false := by
            cases h : (misk d a).any (fun z => true == z)
            · rfl
            · rw [h] at hc; simp at hc
          have hc2 : (misl ds a).any (fun z => true == z) = false := by
            cases h : (misl ds a).any (fun z => true == z)
            · rfl
            · rw [h] at hc; simp at hc
          rw [if_pos rfl, List.map_cons, List.map_append, ih.len ds h2 a (by rw [List.contains_eq_any_beq]; exact hc2)]
          congr 2
          cases hf : forkOf d with
          | none => rw [(fork_none hf).1, (fork_none hf).2.2.2]; rfl
          | some p =>
            obtain ⟨x, y⟩ := p
            obtain ⟨f1, f2, _, f4, s1, s2⟩ := fork_some hf
            rw [f2, List.any_append, Bool.or_eq_false_iff] at hc1
            rw [f1, f4, List.map_append, ih.len x (by omega) _ (by rw [List.contains_eq_any_beq]; exact hc1.1), ih.len y (by omega) _ (by rw [List.contains_eq_any_beq]; exact hc1.2)]
theorem shaped_lform (d : D) (a : Nat) : shaped d a = lform d a := shaped_eq d (below _) a
theorem misl_lnum (ds : List D) (a : Nat) : misl ds a = (lnum ds a).map fun p => !lform p.1 p.2 := (below (sizeOf ds + 1)).mis ds (by omega) a
theorem lall_eq (ds : List D) (a : Nat) : lall ds a = (!(misl ds a).contains true && (flat ds).all wordIn) := (below (sizeOf ds + 1)).all ds (by omega) a
theorem lnum_flat {ds : List D} {a : Nat} (h : (misl ds a).contains true = false) : (lnum ds a).map (·.1) = flat ds := (below (sizeOf ds + 1)).len ds (by omega) a h
end Tr

/-! P1 -/
/-! ### items as the program reads them -/
namespace L2
open PySem PySem.Spec PyProof.Rows
theorem call_list_K {X : Cx} {K : PySem.W.Frag} (hK : X.K = K) : CallR X (.type "list") (fun xs H Q => ∃ p ys, xs = [.ref p] ∧ (SqL K H p ys ∨ SqT K H p ys) ∧ ∀ l, H l = none → Q (.ref l) (upd H l (.lst ys))) := by
  subst hK
  exact call_list_of
theorem call_isiKK {X : Cx} {K : PySem.W.Frag} (hK : X.K = K) : CallR X (.builtin "isinstance") (rIsi K) := by
  subst hK
  exact call_isi
theorem op_in_seqKK {X : Cx} {K : PySem.W.Frag} (hK : X.K = K) : OpR X (compareOp .In) (rIn K false) := by
  subst hK
  exact op_in_seq
end L2
namespace Tr
open PySem PySem.Spec PyProof.Rows L2 Rw
theorem tyx_lst {K : PySem.W.Frag} {H : Hp} {p : Addr} {xs : List V} (h : SqL K H p xs) : TyX K H (.ref p) (.type "list") := by
  rcases h with (h | ⟨o, h⟩) | ⟨o, its, n, hl, hc, r⟩
  · exact .base (.lst h)
  · exact .base (.frz h)
  · exact .kList hl hc
def tyD : D → String
  | .none => "NoneType"
  | .bool _ => "bool"
  | .int _ => "int"
  | .str _ => "str"
  | .list _ => "list"
  | .tuple _ => "tuple"
  | .dict _ => "dict"
def isStr : D → Bool
  | .str _ => true
  | _ => false
theorem dp_ty {K : PySem.W.Frag} {H : Hp} {v : V} {d : D} (h : Dp K H v d) : TyX K H v (.type (tyD d)) := by
  cases h with
  | non => exact .base .non
  | bl b => exact .base (.bl b)
  | int i => exact .base (.int i)
  | str x => exact .base (.str x)
  | lst h _ => exact tyx_lst h
  | tup h _ => exact tyx_tup h
theorem kit_tup {K : PySem.W.Frag} : (d : D) → PySem.W.kitOne K (.type (tyD d)) (.type "tuple") = some (isTup d)
  | .none => show PySem.W.kitOne K (.type "NoneType") (.type "tuple") = some false from kit_ty (by decide +kernel)
  | .bool _ => show PySem.W.kitOne K (.type "bool") (.type "tuple") = some false from kit_ty (by decide +kernel)
  | .int _ => show PySem.W.kitOne K (.type "int") (.type "tuple") = some false from kit_ty (by decide +kernel)
  | .str _ => show PySem.W.kitOne K (.type "str") (.type "tuple") = some false from kit_ty (by decide +kernel)
  | .list _ => show PySem.W.kitOne K (.type "list") (.type "tuple") = some false from kit_ty (by decide +kernel)
  | .tuple _ => show PySem.W.kitOne K (.type "tuple") (.type "tuple") = some true from kit_ty (by decide +kernel)
  | .dict _ => show PySem.W.kitOne K (.type "dict") (.type "tuple") = some false from kit_ty (by decide +kernel)
theorem kit_str {K : PySem.W.Frag} : (d : D) → PySem.W.kitOne K (.type (tyD d)) (.type "str") = some (isStr d)
  | .none => show PySem.W.kitOne K (.type "NoneType") (.type "str") = some false from kit_ty (by decide +kernel)
  | .bool _ => show PySem.W.kitOne K (.type "bool") (.type "str") = some false from kit_ty (by decide +kernel)
  | .int _ => show PySem.W.kitOne K (.type "int") (.type "str") = some false from kit_ty (by decide +kernel)
  | .str _ => show PySem.W.kitOne K (.type "str") (.type "str") = some true from kit_ty (by decide +kernel)
  | .list _ => show PySem.W.kitOne K (.type "list") (.type "str") = some false from kit_ty (by decide +kernel)
  | .tuple _ => show PySem.W.kitOne K (.type "tuple") (.type "str") = some false from kit_ty (by decide +kernel)
  | .dict _ => show PySem.W.kitOne K (.type "dict") (.type "str") = some false from kit_ty (by decide +kernel)
mutual
theorem dp_same {K : PySem.W.Frag} {H H' : Hp} (s : Same H H') : ∀ (d : D) (v : V), Dp K H v d → Dp K H' v d
  | .none, _, h => by cases h; exact .non
  | .bool _, _, h => by cases h; exact .bl _
  | .int _, _, h => by cases h; exact .int _
  | .str _, _, h => by cases h; exact .str _
  | .list ds, _, h => by
    cases h with
    | lst h1 h2 => exact .lst (s.seq h1) (dps_same s ds _ h2)
  | .tuple ds, _, h => by
    cases h with
    | tup h1 h2 => exact .tup (sqT_same s h1) (dps_same s ds _ h2)
  | .dict _, _, h => by cases h
theorem dps_same {K : PySem.W.Frag} {H H' : Hp} (s : Same H H') : ∀ (ds : List D) (vs : List V), DpAll K H vs ds → DpAll K H' vs ds
  | [], _, h => by cases h; exact .nil
  | d :: ds, _, h => by
    cases h with
    | cons h1 h2 => exact .cons (dp_same s d _ h1) (dps_same s ds _ h2)
end
theorem _root_.L2.Dp.same {K : PySem.W.Frag} {H H' : Hp} {v : V} {d : D} (h : Dp K H v d) (s : Same H H') : Dp K H' v d := dp_same s d v h
theorem _root_.L2.DpAll.same {K : PySem.W.Frag} {H H' : Hp} {vs : List V} {ds : List D} (h : DpAll K H vs ds) (s : Same H H') : DpAll K H' vs ds := dps_same s ds vs h
theorem dpl {K : PySem.W.Frag} {H : Hp} : ∀ {vs : List V} {ds : List D}, DpAll K H vs ds → vs.length = ds.length
  | _, _, .nil => rfl
  | _, _, .cons _ t => by rw [List.length_cons, List.length_cons, dpl t]
theorem dp_get {K : PySem.W.Frag} {H : Hp} : ∀ {vs : List V} {ds : List D} {i : Nat} {v : V}, DpAll K H vs ds → vs[i]? = some v → ∃ d, ds[i]? = some d ∧ Dp K H v d
  | _, _, 0, _, .cons h _, e => by cases e; exact ⟨_, rfl, h⟩
  | _, _, i + 1, _, .cons _ t, e => dp_get (i := i) t e
theorem dp_drop {K : PySem.W.Frag} {H : Hp} : ∀ {vs : List V} {ds : List D} (i : Nat), DpAll K H vs ds → DpAll K H (vs.drop i) (ds.drop i)
  | _, _, 0, h => h
  | _, _, _ + 1, .nil => .nil
  | _, _, i + 1, .cons _ t => dp_drop i t
theorem dp_take {K : PySem.W.Frag} {H : Hp} : ∀ {vs : List V} {ds : List D} (i : Nat), DpAll K H vs ds → DpAll K H (vs.take i) (ds.take i)
  | _, _, 0, h => .nil
  | _, _, _ + 1, .nil => .nil
  | _, _, i + 1, .cons h t => .cons h (dp_take i t)
theorem dp_app {K : PySem.W.Frag} {H : Hp} : ∀ {vs us : List V} {ds es : List D}, DpAll K H vs ds → DpAll K H us es → DpAll K H (vs ++ us) (ds ++ es)
  | _, _, _, _, .nil, h => h
  | _, _, _, _, .cons a t, h => .cons a (dp_app t h)
/-- a text's length is kept small -/
def smallD : D → Bool
  | .str z => decide (z.length ≤ 1000000)
  | _ => true
theorem dp_nv {K : PySem.W.Frag} {H : Hp} {v : V} {d : D} (h : Dp K H v d) (z : smallD d = true) : NV K H v (nameD d) := by
  cases h with
  | non => exact .other (.base .non) (by decide)
  | bl b => exact .other (.base (.bl b)) (by decide)
  | int i => exact .other (.base (.int i)) (by decide)
  | str x => exact .str x (of_decide_eq_true z)
  | lst h _ => exact .other (tyx_lst h) (by decide)
  | tup h _ => exact .other (tyx_tup h) (by decide)
def spTups (K : PySem.W.Frag) : Sp := fun vs H Q _ => ∃ (p : Addr) (xs : List V) (ds : List D), vs = [.ref p] ∧ SqT K H p xs ∧ DpAll K H xs ds ∧ ds.length ≤ 1000 ∧ ∀ H', Same H H' → Q (.bl (ds.all isTup)) H'
section
variable {P : Program} {w : World} {K : PySem.W.Frag} {mg : Str → Option Value} {base : Heap}
abbrev sTups : Stmt := top 23
theorem scTups : FnScope ["values", "value"] ["values"] (defScope sTups) := ⟨rfl, rfl, rfl, by decide +kernel, rfl, by decide +kernel, by decide +kernel⟩
theorem ok_tups {f : Addr} {fd : FuncData} (F : Fun K "are_tuples" "are_tuples" sTups f fd) (m_isinstance : mg "isinstance" = none) (m_tuple : mg "tuple" = none) (m_all : mg "all" = none) : FnOk P w K mg base CX0 1 f fd ["values"] (spTups K) := by
  refine F.ok scTups (fun vs H Q E h => ?_) (fun cdv A outer s H vs Q E hr h => ?_)
  · obtain ⟨p, xs, ds, rfl, _⟩ := h
    rfl
  · obtain ⟨p, xs, ds, rfl, hx, hd, hz, q⟩ := h
    refine ⟨_, (pss_one (ps_ret (pe_callB (cr_all rfl) (by rfl) m_all (by decide +kernel) (pa_cons (pe_lc (own := [("value", 1)]) (g := gName 1) (tt := tYes) (by rfl) scTups.nd (pi_tup (pv 0)) (blkOk_by (own := [("value", 1)]) (N := ["values", "value"]) (sc := defScope sTups) (by decide +kernel)) (fun _ _ _ _ _ => (pg_name (i := 1) scTups.nd rfl (Or.inl rfl))) (fun _ _ _ _ _ => pts_nil) (fun _ _ _ _ _ => (pe_callB (call_isiKK (K := K) rfl) (by rfl) m_isinstance (by decide +kernel) (pa_cons (pv 1) (pa_cons (pe_bltn (v := .ty "tuple") (by rfl) m_tuple (by decide +kernel) rfl) pa_nil))))) pa_nil)))), ?_⟩
    have len := dpl hd
    refine ⟨_, rfl, p, rfl, ⟨_, hx⟩, fun L nL => lc_tup (xs := xs) (fun i H' => Same H H' ∧ H' L = some (.lst ((ds.take i).map fun d => V.bl (isTup d)))) ⟨same_upd nL, upd_same⟩ (fun i H' _ h => h.1.tupS hx) ?_ ?_⟩
    · rintro i x H1 hxi ⟨s1, e1⟩
      obtain ⟨d, hd1, hdx⟩ := dp_get hd hxi
      refine ⟨rfl, ?_⟩
      dsimp only [tYes]
      rw [if_pos rfl]
      refine ⟨_, rfl, _, _, _, _, _, rfl, .ty _, dp_ty (hdx.same s1), kit_tup d, _, e1, ?_, same_updN nL s1, ?_⟩
      · rw [List.length_map, List.length_take, sizeLine_eq]
        omega
      · rw [upd_same, take_snoc hd1, List.map_append]
        rfl
    · rintro H1 ⟨s1, e1⟩
      rw [len, List.take_length] at e1
      have e3 : (ds.map fun d => V.bl (isTup d)) = (ds.map isTup).map V.bl := by rw [List.map_map]; rfl
      rw [e3] at e1
      refine ⟨L, _, rfl, .inl (.inl e1), ?_⟩
      have e4 : (ds.map isTup).all id = ds.all isTup := by rw [List.all_map]; rfl
      rw [e4]
      exact q H1 s1
end
end Tr

/-! P2 -/
/-! ### what fits, branches, the locks behind an item -/
namespace Tr
open PySem PySem.Spec PyProof.Rows L2 Rw
mutual
def goodD : D → Bool
  | .str z => PyData.strOk z && decide (z.length ≤ 1000)
  | .tuple ds => goodAll ds
  | .list ds => goodAll ds
  | .dict _ => false
  | _ => true
def goodAll : List D → Bool
  | [] => true
  | d :: ds => goodD d && goodAll ds
end
mutual
def cntD : D → Nat
  | .tuple ds => cntAll ds + 1
  | .list ds => cntAll ds + 1
  | _ => 1
def cntAll : List D → Nat
  | [] => 0
  | d :: ds => cntD d + cntAll ds
end
structure FitD (n : Nat) (d : D) : Prop where
  good : goodD d = true
  dep : d.depth < n
  cnt : cntD d ≤ 60000
structure Fits (n : Nat) (ds : List D) : Prop where
  good : goodAll ds = true
  dep : PyData.depthAll ds < n
  cnt : cntAll ds ≤ 60000
theorem Fits.head {n : Nat} {d : D} {ds : List D} (h : Fits n (d :: ds)) : FitD n d := by
  obtain ⟨a, b, c⟩ := h
  rw [goodAll, Bool.and_eq_true] at a
  rw [PyData.depthAll] at b
  rw [cntAll] at c
  exact ⟨a.1, by omega, by omega⟩
theorem Fits.tail {n : Nat} {d : D} {ds : List D} (h : Fits n (d :: ds)) : Fits n ds := by
  obtain ⟨a, b, c⟩ := h
  rw [goodAll, Bool.and_eq_true] at a
  rw [PyData.depthAll] at b
  rw [cntAll] at c
  exact ⟨a.2, by omega, by omega⟩
theorem Fits.mem {n : Nat} : ∀ {ds : List D} {d : D}, Fits n ds → d ∈ ds → FitD n d
  | _ :: _, _, h, .head _ => h.head
  | _ :: _, _, h, .tail _ t => h.tail.mem t
theorem FitD.inside {n : Nat} {ds : List D} (h : FitD (n + 1) (.tuple ds)) : Fits n ds := by
  obtain ⟨a, b, c⟩ := h
  rw [goodD] at a
  rw [PyData.depth] at b
  rw [cntD] at c
  exact ⟨a, by omega, by omega⟩
theorem FitD.wrap {n : Nat} {ds : List D} (h : Fits n ds) (c : cntAll ds < 60000) : FitD (n + 1) (.tuple ds) := by
  obtain ⟨a, b, _⟩ := h
  exact ⟨by rw [goodD]; exact a, by rw [PyData.depth]; omega, by rw [cntD]; omega⟩
theorem FitD.pos {n : Nat} {d : D} (h : FitD n d) : 0 < n := Nat.lt_of_le_of_lt (Nat.zero_le _) h.dep
theorem FitD.mono {n m : Nat} {d : D} (h : FitD n d) (e : n ≤ m) : FitD m d := ⟨h.good, Nat.lt_of_lt_of_le h.dep e, h.cnt⟩
theorem Fits.mono {n m : Nat} {d : List D} (h : Fits n d) (e : n ≤ m) : Fits m d := ⟨h.good, Nat.lt_of_lt_of_le h.dep e, h.cnt⟩
theorem len_cnt : ∀ ds : List D, ds.length ≤ cntAll ds
  | [] => Nat.zero_le _
  | d :: ds => by
    have h := len_cnt ds
    have h1 : 1 ≤ cntD d := by cases d <;> simp [cntD]
    rw [List.length_cons, cntAll]
    omega
theorem Fits.len {n : Nat} {ds : List D} (h : Fits n ds) : ds.length ≤ 60000 := Nat.le_trans (len_cnt ds) h.cnt
mutual
theorem lay_of : ∀ d : D, goodD d = true → PyData.canLay0 d = true
  | .none, _ => rfl
  | .bool _, _ => rfl
  | .int _, _ => rfl
  | .str z, h => by
    rw [goodD, Bool.and_eq_true] at h
    rw [PyData.canLay0]
    exact h.1
  | .tuple ds, h => by
    rw [goodD] at h
    rw [PyData.canLay0]
    exact lays_of ds h
  | .list ds, h => by
    rw [goodD] at h
    rw [PyData.canLay0]
    exact lays_of ds h
  | .dict _, h => by rw [goodD] at h; cases h
theorem lays_of : ∀ ds : List D, goodAll ds = true → PyData.canLayAll0 ds = true
  | [], _ => rfl
  | d :: ds, h => by
    rw [goodAll, Bool.and_eq_true] at h
    rw [PyData.canLayAll0, lay_of d h.1, lays_of ds h.2]
    rfl
end
theorem FitD.small {n : Nat} {d : D} (h : FitD n d) : smallD d = true := by
  cases d with
  | str z =>
    have g := h.good
    rw [goodD, Bool.and_eq_true] at g
    have g2 := of_decide_eq_true g.2
    exact decide_eq_true (by omega)
  | _ => rfl
theorem FitD.shaped {n : Nat} {d : D} (h : FitD n d) (hn : n ≤ 40) : SeqAt.shaped d = true := shaped_of (lay_of d h.good) (by have := h.dep; omega)
theorem tail_from {K : PySem.W.Frag} {H : Hp} {p : Addr} {xs : List V} {x : Int} {i : Nat} {Q : VK} (h : SqT K H p xs) (hx : x = (i : Nat)) (q : ∀ H' u, Same H H' → SqT K H' u (xs.drop i) → Q (.ref u) H') : rSlA K (.ref p) (some x) none H Q := by
  subst hx
  have e1 : HT.sIx xs.length 0 (some ((i : Nat) : Int)) = min i xs.length := HT.sIx_nat xs.length 0 i
  have e0 : HT.sIx xs.length xs.length none = xs.length := rfl
  refine ⟨p, _, rfl, h, fun c => ?_, fun c u nu => ?_⟩
  · have c1 := c.1
    rw [e1] at c1
    have z : xs.drop i = xs := by
      by_cases hi : i = 0
      · rw [hi]; rfl
      · have z2 : xs.length = 0 := by omega
        rw [List.eq_nil_of_length_eq_zero z2]
        cases i <;> rfl
    have y := q H p (Same.refl H)
    rw [z] at y
    exact y h
  · refine q _ _ (same_upd nu) (SqT.of ?_)
    rw [upd_same]
    have e2 : cutV xs (some ((i : Nat) : Int)) none = xs.drop i := by
      show (xs.drop (HT.sIx xs.length 0 (some ((i : Nat) : Int)))).take (HT.sIx xs.length xs.length none - HT.sIx xs.length 0 (some ((i : Nat) : Int))) = _
      rw [e1, e0, List.take_of_length_le (by rw [List.length_drop]; exact Nat.le_refl _)]
      by_cases hi : i ≤ xs.length
      · rw [Nat.min_eq_left hi]
      · rw [Nat.min_eq_right (by omega), List.drop_of_length_le (Nat.le_refl _), List.drop_of_length_le (by omega)]
    rw [e2]
theorem atN {xs : List V} {i : Nat} {x : V} (h : xs[i]? = some x) : atI xs ((i : Nat) : Int) = some x := by
  have hi : i < xs.length := (List.getElem?_eq_some_iff.mp h).1
  unfold atI ixN
  rw [if_pos (Int.natCast_nonneg i), if_pos (Int.ofNat_lt.mpr hi)]
  exact h
theorem at0 {x : V} {xs : List V} : atI (x :: xs) 0 = some x := atN (i := 0) rfl
theorem at1 {x y : V} {xs : List V} : atI (x :: y :: xs) 1 = some y := atN (i := 1) rfl
theorem at2 {x y z : V} {xs : List V} : atI (x :: y :: z :: xs) 2 = some z := atN (i := 2) rfl
theorem at3 {x y z t : V} {xs : List V} : atI (x :: y :: z :: t :: xs) 3 = some t := atN (i := 3) rfl
def wD : D → Str
  | .tuple (.str w :: _) => w
  | _ => ""
def nmD : D → Str
  | .tuple (_ :: .str n :: _) => n
  | _ => ""
/-- an item of which the tuples, the names can be read -/
def BrOk (d : D) : Prop := ∃ w r, d = .tuple (.str w :: r) ∧ (w = "test" → ∃ n x y, r = [n, .tuple x, .tuple y]) ∧ (w = "choose" → ∃ x y, r = [.tuple x, .tuple y]) ∧ (w = "take" ∨ w = "give" ∨ w = "piece" → ∃ n r', r = .str n :: r')
def kids (d : D) : List (List D) := match forkOf d with
  | some (x, y) => [x, y]
  | none => []
theorem kids_test {n : D} {x y : List D} : kids (.tuple [.str "test", n, .tuple x, .tuple y]) = [x, y] := by
  rfl
theorem kids_choose {x y : List D} : kids (.tuple [.str "choose", .tuple x, .tuple y]) = [x, y] := by
  rfl
theorem kids_none {w : Str} {r : List D} (h1 : w ≠ "test") (h2 : w ≠ "choose") : kids (.tuple (.str w :: r)) = [] := by
  unfold kids
  have e : forkOf (.tuple (.str w :: r)) = none := by
    unfold forkOf
    split
    · next e =>
      cases e
      exact if_neg h1
    · next e =>
      cases e
      exact if_neg h2
    · rfl
  rw [e]
def spBr (K : PySem.W.Frag) : Sp := fun vs H Q _ => ∃ (H0 : Hp) (v : V) (d : D), vs = [v] ∧ Same H0 H ∧ Dp K H0 v d ∧ BrOk d ∧ ∀ H' t ys, Same H H' → SqT K H' t ys → DpAll K H0 ys ((kids d).map PyData.tuple) → Q (.ref t) H'
def behindD (d : D) (h : List Str) : List Str := if wD d = "take" then h ++ [nmD d] else if wD d = "give" then h.dropLast else h
def spBeh (K : PySem.W.Frag) : Sp := fun vs H Q _ => ∃ (v hv : V) (d : D) (h : List Str), vs = [v, hv] ∧ Dp K H v d ∧ BrOk d ∧ TxtT K H hv h ∧ h.length ≤ 900 ∧ ∀ H' u, Same H H' → TxtT K H' u (behindD d h) → Q u H'
section
variable {P : Program} {w : World} {K : PySem.W.Frag} {mg : Str → Option Value} {base : Heap}
abbrev sBr : Stmt := top 25
theorem scBr : FnScope ["item"] ["item"] (defScope sBr) := ⟨rfl, rfl, rfl, by decide +kernel, rfl, by decide +kernel, by decide +kernel⟩
theorem ok_br {f : Addr} {fd : FuncData} (F : Fun K "branches" "branches" sBr f fd) : FnOk P w K mg base CX0 1 f fd ["item"] (spBr K) := by
  refine F.ok scBr (fun vs H Q E h => ?_) (fun cdv A outer s H vs Q E hr h => ?_)
  · obtain ⟨H0, v, d, rfl, _⟩ := h
    rfl
  · obtain ⟨H0, v, d, rfl, s0, hd, ⟨wd, r, rfl, b1, b2, b3⟩, q⟩ := h
    refine ⟨_, (pss_cons (ps_if (pt_cmpR op_eq (pe_ix (ix_tupK (K := K) rfl) (pv 0) pe_int (fun _ _ => rfl)) pe_str (nomark _))
       (pss_one (ps_ret (pe_slice sl_tupA (pv 0) (po_some pe_int) po_none)))
       pss_nil)
       (pss_cons (ps_if (pt_cmpR op_eq (pe_ix (ix_tupK (K := K) rfl) (pv 0) pe_int (fun _ _ => rfl)) pe_str (nomark _))
       (pss_one (ps_ret (pe_slice sl_tupA (pv 0) (po_some pe_int) po_none)))
       pss_nil)
       (pss_one (ps_ret (pe_tup pa_nil))))), ?_⟩
    cases hd with
    | @tup p xs _ hp ha =>
      cases ha with
      | @cons x0 xs _ _ h0 ha =>
        cases h0
        have hp1 := s0.tupS hp
        refine ⟨_, rfl, p, _, _, _, rfl, rfl, hp1, at0, rfl, _, rfl, ?_⟩
        rw [Rw.dec_str]
        by_cases e1 : wd = "test"
        · rw [decide_eq_true e1]
          subst e1
          obtain ⟨n, x, y, rfl⟩ := b1 rfl
          refine iteT ⟨_, rfl, _, rfl, ?_⟩
          dsimp only [tNoPart]
          refine tail_from (i := 2) hp1 rfl fun H' u s1 hu => ?_
          refine q H' u _ s1 hu ?_
          rw [kids_test]
          cases ha with
          | cons _ ha => exact ha
        · rw [decide_eq_false e1]
          refine iteF ?_
          refine ⟨_, rfl, p, _, _, _, rfl, rfl, hp1, at0, rfl, _, rfl, ?_⟩
          rw [Rw.dec_str]
          by_cases e2 : wd = "choose"
          · rw [decide_eq_true e2]
            subst e2
            obtain ⟨x, y, rfl⟩ := b2 rfl
            refine iteT ⟨_, rfl, _, rfl, ?_⟩
            dsimp only [tNoPart]
            refine tail_from (i := 1) hp1 rfl fun H' u s1 hu => ?_
            refine q H' u _ s1 hu ?_
            rw [kids_choose]
            exact ha
          · rw [decide_eq_false e2]
            refine iteF ?_
            refine ⟨Nat.zero_le _, fun t nt => q _ t [] (same_upd nt) (SqT.of upd_same) ?_⟩
            rw [kids_none e1 e2]
            exact .nil
abbrev sBeh : Stmt := top 31
theorem scBeh : FnScope ["item", "held"] ["item", "held"] (defScope sBeh) := ⟨rfl, rfl, rfl, by decide +kernel, rfl, by decide +kernel, by decide +kernel⟩
theorem ok_beh {f : Addr} {fd : FuncData} (F : Fun K "locks_behind" "locks_behind" sBeh f fd) : FnOk P w K mg base CX0 1 f fd ["item", "held"] (spBeh K) := by
  refine F.ok scBeh (fun vs H Q E h => ?_) (fun cdv A outer s H vs Q E hr h => ?_)
  · obtain ⟨v, hv, d, ns, rfl, _⟩ := h
    rfl
  · obtain ⟨v, hv, d, ns, rfl, hd, ⟨wd, r, rfl, b1, b2, b3⟩, ht0, hz, q⟩ := h
    obtain ⟨t, rfl, ht⟩ := id ht0
    refine ⟨_, (pss_cons (ps_if (pt_cmpR op_eq (pe_ix (ix_tupK (K := K) rfl) (pv 0) pe_int (fun _ _ => rfl)) pe_str (nomark _))
       (pss_one (ps_ret (pe_op op_catA (pv 1) (pe_tup (pa_cons (pe_ix (ix_tupK (K := K) rfl) (pv 0) pe_int (fun _ _ => rfl)) pa_nil)))))
       pss_nil)
       (pss_cons (ps_if (pt_cmpR op_eq (pe_ix (ix_tupK (K := K) rfl) (pv 0) pe_int (fun _ _ => rfl)) pe_str (nomark _))
       (pss_one (ps_ret (pe_slice sl_tupA (pv 1) po_none (po_some (pe_un un_neg pe_int)))))
       pss_nil)
       (pss_one (ps_ret (pv 1))))), ?_⟩
    cases hd with
    | @tup p xs _ hp ha =>
      cases ha with
      | @cons x0 xs _ _ h0 ha =>
        cases h0
        refine ⟨_, rfl, p, _, _, _, rfl, rfl, hp, at0, rfl, _, rfl, ?_⟩
        rw [Rw.dec_str]
        unfold behindD at q
        rw [show wD (.tuple (.str wd :: r)) = wd from rfl] at q
        by_cases h1 : wd = "take"
        · rw [decide_eq_true h1]
          rw [if_pos h1] at q
          obtain ⟨n, r', rfl⟩ := b3 (.inl h1)
          cases ha with
          | @cons x1 xs2 _ _ h0 ha =>
          cases h0
          refine iteT ?_
          refine ⟨_, rfl, _, rfl, p, _, _, _, rfl, rfl, hp, at1, by show 1 ≤ sizeLine; decide, fun y ny => ?_⟩
          have s1 := same_upd (o := HO.tup [V.str n]) ny
          refine cat_txt (ht0.same s1) ⟨y, rfl, SqT.of upd_same⟩ (bs := [n]) (by show ns.length + 1 ≤ 1000; omega) fun H' u s2 hu => q H' u (s1.trans s2) hu
        · rw [decide_eq_false h1]
          rw [if_neg h1] at q
          refine iteF ?_
          refine ⟨_, rfl, p, _, _, _, rfl, rfl, hp, at0, rfl, _, rfl, ?_⟩
          rw [Rw.dec_str]
          by_cases h2 : wd = "give"
          · rw [decide_eq_true h2]
            rw [if_pos h2] at q
            refine iteT ?_
            refine ⟨_, rfl, _, rfl, _, rfl, ?_⟩
            refine ⟨t, _, rfl, ht, fun c => ?_, fun c u nu => ?_⟩
            · have e1 : HT.sIx (ns.map V.str).length (ns.map V.str).length (some (-1)) = ns.length - 1 := by rw [List.length_map]; exact sIx_m1 _ _
              have c2 := c.2
              rw [e1, List.length_map] at c2
              have e2 : ns = [] := List.eq_nil_of_length_eq_zero (by omega)
              rw [e2] at q ht
              exact q H _ (Same.refl H) ⟨t, rfl, ht⟩
            · refine q _ _ (same_upd nu) ⟨u, rfl, SqT.of ?_⟩
              rw [upd_same, cut_m1, List.map_dropLast]
          · rw [decide_eq_false h2]
            rw [if_neg h2] at q
            refine iteF ?_
            exact ⟨_, rfl, q H _ (Same.refl H) ⟨t, rfl, ht⟩⟩
end
end Tr

/-! P3 -/
/-! ### is_fork, flat -/
namespace Tr
open PySem PySem.Spec PyProof.Rows L2 Rw
theorem int_dec {n : Nat} (m : Int) (k : Nat) (h : m = (k : Nat)) : decide (V.int ((n : Nat) : Int) = V.int m) = decide (n = k) := by
  subst h
  by_cases e : n = k
  · rw [decide_eq_true e, decide_eq_true (by rw [e])]
  · rw [decide_eq_false e, decide_eq_false fun z => e (by have := V.int.inj z; omega)]
theorem fs_test {r : List D} (h : r.length ≠ 3) : forkShape "test" r = false := by
  match r, h with
  | [], _ => rfl
  | [_], _ => rfl
  | [x, y], _ => simp [forkShape, test_choose]
  | [_, _, _], h => exact absurd rfl h
  | _ :: _ :: _ :: _ :: _, _ => rfl
theorem fs_choose {r : List D} (h : r.length ≠ 2) : forkShape "choose" r = false := by
  match r, h with
  | [], _ => rfl
  | [_], _ => rfl
  | [_, _], h => exact absurd rfl h
  | [x, y, z], _ => simp [forkShape, test_choose.symm]
  | _ :: _ :: _ :: _ :: _, _ => rfl
theorem fs_other {w : Str} {r : List D} (h : w ≠ "test") (h2 : w ≠ "choose") : forkShape w r = false := by
  match r with
  | [] => rfl
  | [_] => rfl
  | [_, _] => simp [forkShape, h2]
  | [x, y, z] => simp [forkShape, h]
  | _ :: _ :: _ :: _ :: _ => rfl
def spFork (K : PySem.W.Frag) : Sp := fun vs H Q _ => ∃ (p : Addr) (xs : List V) (w : Str) (r : List D), vs = [.ref p] ∧ SqT K H p xs ∧ DpAll K H xs (.str w :: r) ∧ (∀ d ∈ r, smallD d = true) ∧ ∀ H', Same H H' → Q (.bl (forkShape w r)) H'
section
variable {P : Program} {w : World} {K : PySem.W.Frag} {mg : Str → Option Value} {base : Heap}
abbrev sFork : Stmt := top 22
theorem scFork : FnScope ["value"] ["value"] (defScope sFork) := ⟨rfl, rfl, rfl, by decide +kernel, rfl, by decide +kernel, by decide +kernel⟩
theorem ok_fork {f fN fT : Addr} {fd fdN fdT : FuncData} (F : Fun K "is_fork" "is_fork" sFork f fd) (GN : FnOk P w K mg base CX0 1 fN fdN ["value"] (spName K)) (TN : Called K mg "is_name" ["value"] fN fdN)
    (GT : FnOk P w K mg base CX0 1 fT fdT ["values"] (spTups K)) (TT : Called K mg "are_tuples" ["values"] fT fdT) (m_len : mg "len" = none) : FnOk P w K mg base CX0 2 f fd ["value"] (spFork K) := by
  refine F.ok scFork (fun vs H Q E h => ?_) (fun cdv A outer s H vs Q E hr h => ?_)
  · obtain ⟨p, xs, wd, r, rfl, _⟩ := h
    rfl
  · obtain ⟨p, xs0, wd, r, rfl, hp, ha, sm, q⟩ := h
    refine ⟨_, (pss_cons (ps_if (pt_cmpR op_eq (pe_ix (ix_tupK (K := K) rfl) (pv 0) pe_int (fun _ _ => rfl)) pe_str (nomark _))
       (pss_one (ps_ret (pe_and (pe_cmpR op_eq (pe_callB (call_len_K (K := K) rfl) (by rfl) m_len PySem.boot_len (pa_cons (pv 0) pa_nil)) pe_int (nomark _)) (pe_and (pe_call GN (hr.mono (by first | decide | omega)) rfl TN.1 TN.2.1 TN.2.2 .nil pass0 (pa_cons (pe_ix (ix_tupK (K := K) rfl) (pv 0) pe_int (fun _ _ => rfl)) pa_nil)) (pe_one (pe_call GT (hr.mono (by first | decide | omega)) rfl TT.1 TT.2.1 TT.2.2 .nil pass0 (pa_cons (pe_slice sl_tupA (pv 0) (po_some pe_int) po_none) pa_nil)))))))
       pss_nil)
       (pss_one (ps_ret (pe_and (pe_cmpR op_eq (pe_ix (ix_tupK (K := K) rfl) (pv 0) pe_int (fun _ _ => rfl)) pe_str (nomark _)) (pe_and (pe_cmpR op_eq (pe_callB (call_len_K (K := K) rfl) (by rfl) m_len PySem.boot_len (pa_cons (pv 0) pa_nil)) pe_int (nomark _)) (pe_one (pe_call GT (hr.mono (by first | decide | omega)) rfl TT.1 TT.2.1 TT.2.2 .nil pass0 (pa_cons (pe_slice sl_tupA (pv 0) (po_some pe_int) po_none) pa_nil)))))))), ?_⟩
    cases ha with
    | @cons x0 xs _ _ h0 ha =>
    cases h0
    have len := dpl ha
    have lenE : (V.str wd :: xs).length = r.length + 1 := by rw [List.length_cons, len]
    refine ⟨_, rfl, p, _, _, _, rfl, rfl, hp, at0, rfl, _, rfl, ?_⟩
    rw [Rw.dec_str]
    by_cases e1 : wd = "test"
    · rw [decide_eq_true e1]
      subst e1
      refine iteT ?_
      refine ⟨_, rfl, p, _, rfl, .inr hp, rfl, _, rfl, ?_⟩
      rw [lenE, int_dec 4 4 rfl]
      by_cases h3 : r.length = 3
      · rw [decide_eq_true (by omega)]
        match r, h3, ha with
        | [n, x, y], _, .cons hn (.cons hx (.cons hy .nil)) =>
        refine iteT ?_
        refine ⟨_, rfl, p, _, _, _, rfl, rfl, hp, at1, _, _, rfl, dp_nv hn (sm n List.mem_cons_self), fun H1 s1 => ⟨_, rfl, ?_⟩⟩
        cases hnm : nameD n with
        | false =>
          have z := q H1 s1
          rw [show forkShape "test" [n, x, y] = false by simp [forkShape, hnm]] at z
          exact iteF z
        | true =>
          refine iteT ?_
          refine ⟨_, rfl, _, rfl, ?_⟩
          dsimp only [tNoPart]
          refine tail_from (i := 2) (s1.tupS hp) rfl fun H2 u s2 hu => ?_
          refine ⟨u, _, [x, y], rfl, hu, (DpAll.cons hx (.cons hy .nil)).same (s1.trans s2), by show 2 ≤ 1000; decide, fun H3 s3 => ?_⟩
          have z := q H3 ((s1.trans s2).trans s3)
          rw [show forkShape "test" [n, x, y] = [x, y].all isTup by simp [forkShape, hnm]] at z
          exact z
      · rw [decide_eq_false (by omega)]
        rw [fs_test h3] at q
        exact iteF (q H (Same.refl H))
    · rw [decide_eq_false e1]
      refine iteF ?_
      refine ⟨_, rfl, p, _, _, _, rfl, rfl, hp, at0, rfl, _, rfl, ?_⟩
      rw [Rw.dec_str]
      by_cases e2 : wd = "choose"
      · rw [decide_eq_true e2]
        subst e2
        refine iteT ?_
        refine ⟨_, rfl, p, _, rfl, .inr hp, rfl, _, rfl, ?_⟩
        rw [lenE, int_dec 3 3 rfl]
        by_cases h3 : r.length = 2
        · rw [decide_eq_true (by omega)]
          match r, h3, ha with
          | [x, y], _, .cons hx (.cons hy .nil) =>
          refine iteT ?_
          refine ⟨_, rfl, _, rfl, ?_⟩
          dsimp only [tNoPart]
          refine tail_from (i := 1) hp rfl fun H2 u s2 hu => ?_
          refine ⟨u, _, [x, y], rfl, hu, (DpAll.cons hx (.cons hy .nil)).same s2, by show 2 ≤ 1000; decide, fun H3 s3 => ?_⟩
          have z := q H3 (s2.trans s3)
          rw [show forkShape "choose" [x, y] = [x, y].all isTup by simp [forkShape]] at z
          exact z
        · rw [decide_eq_false (by omega)]
          rw [fs_choose h3] at q
          exact iteF (q H (Same.refl H))
      · rw [decide_eq_false e2]
        rw [fs_other e1 e2] at q
        exact iteF (q H (Same.refl H))
end
/-! flat -/
theorem flat_app : ∀ as bs : List D, flat (as ++ bs) = flat as ++ flat bs
  | [], bs => by rw [List.nil_append]; rw [flat]; rfl
  | a :: as, bs => by
    rw [List.cons_append, flat, flat, flat_app as bs]
    simp
theorem flat_one (d : D) : flat [d] = d :: flatk d := by rw [flat, flat, List.append_nil]
theorem flatk_kids (d : D) : flatk d = (kids d).flatMap flat := by
  unfold kids
  cases h : forkOf d with
  | none => exact (fork_none h).1
  | some p =>
    obtain ⟨x, y⟩ := p
    rw [(fork_some h).1]
    simp
theorem fork_depth {d : D} {x y : List D} (h : forkOf d = some (x, y)) : PyData.depthAll x + 2 ≤ d.depth ∧ PyData.depthAll y + 2 ≤ d.depth ∧ cntAll x + cntAll y + 3 ≤ cntD d ∧ (goodD d = true → goodAll x = true ∧ goodAll y = true) := by
  unfold forkOf at h
  split at h
  · split at h
    · cases h
      simp only [PyData.depth, PyData.depthAll, cntD, cntAll, goodD, goodAll, Bool.and_eq_true]
      exact ⟨by omega, by omega, by omega, fun g => ⟨g.2.2.1, g.2.2.2.1⟩⟩
    · cases h
  · split at h
    · cases h
      simp only [PyData.depth, PyData.depthAll, cntD, cntAll, goodD, goodAll, Bool.and_eq_true]
      exact ⟨by omega, by omega, by omega, fun g => ⟨g.2.1, g.2.2.1⟩⟩
    · cases h
  · cases h
theorem kid_fit {n : Nat} {d : D} {x : List D} (h : FitD (n + 1) d) (hx : x ∈ kids d) : Fits n x := by
  unfold kids at hx
  cases hf : forkOf d with
  | none => rw [hf] at hx; cases hx
  | some p =>
    obtain ⟨a, b⟩ := p
    rw [hf] at hx
    obtain ⟨d1, d2, d3, d4⟩ := fork_depth hf
    obtain ⟨g1, g2⟩ := d4 h.good
    have hd := h.dep
    have hc := h.cnt
    simp only [List.mem_cons, List.not_mem_nil, or_false] at hx
    rcases hx with rfl | rfl
    · exact ⟨g1, by omega, by omega⟩
    · exact ⟨g2, by omega, by omega⟩
theorem kids_len (d : D) : (kids d).length ≤ 2 := by
  unfold kids
  split
  · exact Nat.le_refl _
  · exact Nat.zero_le _
theorem flat_cnt_aux (N : Nat) : ∀ ds : List D, sizeOf ds < N → (flat ds).length ≤ cntAll ds := by
  induction N with
  | zero => exact fun _ h => absurd h (by omega)
  | succ N ih =>
    intro ds h
    cases ds with
    | nil => rw [flat]; exact Nat.zero_le _
    | cons d ds =>
      simp at h
      rw [flat, cntAll, List.length_cons, List.length_append]
      have h1 := ih ds (by omega)
      have h2 : (flatk d).length + 1 ≤ cntD d := by
        cases hf : forkOf d with
        | none =>
          rw [(fork_none hf).1]
          cases d <;> simp [cntD]
        | some p =>
          obtain ⟨x, y⟩ := p
          obtain ⟨f1, _, _, _, s1, s2⟩ := fork_some hf
          obtain ⟨_, _, d3, _⟩ := fork_depth hf
          rw [f1, List.length_append]
          have a := ih x (by omega)
          have b := ih y (by omega)
          omega
      omega
theorem flat_cnt (ds : List D) : (flat ds).length ≤ cntAll ds := flat_cnt_aux _ ds (Nat.lt_succ_self _)
theorem dp_map_tup {K : PySem.W.Frag} {H : Hp} {ys : List V} {dss : List (List D)} {j : Nat} {v : V} (h : DpAll K H ys (dss.map PyData.tuple)) (e : ys[j]? = some v) : ∃ (p : Addr) (xs : List V) (ds : List D), v = .ref p ∧ dss[j]? = some ds ∧ SqT K H p xs ∧ DpAll K H xs ds := by
  obtain ⟨d, h1, h2⟩ := dp_get h e
  rw [List.getElem?_map, Option.map_eq_some_iff] at h1
  obtain ⟨ds, h3, rfl⟩ := h1
  cases h2 with
  | @tup p xs _ a b => exact ⟨p, xs, ds, rfl, h3, a, b⟩
def spFlat (K : PySem.W.Frag) (n : Nat) : Sp := fun vs H Q _ => ∃ (H0 : Hp) (p : Addr) (xs : List V) (ds : List D), vs = [.ref p] ∧ Same H0 H ∧ SqT K H p xs ∧ DpAll K H0 xs ds ∧ Fits n ds ∧ (∀ d ∈ flat ds, BrOk d) ∧ ∀ H' l ys, Same H H' → H l = none → H' l = some (.lst ys) → DpAll K H0 ys (flat ds) → Q (.ref l) H'
section
variable {P : Program} {w : World} {K : PySem.W.Frag} {mg : Str → Option Value} {base : Heap}
abbrev sFlat : Stmt := top 26
theorem scFlat : FnScope ["items", "found", "item", "inner"] ["items"] (defScope sFlat) := ⟨rfl, rfl, rfl, by decide +kernel, rfl, by decide +kernel, by decide +kernel⟩
theorem ok_flat {f fB : Addr} {fd fdB : FuncData} (F : Fun K "flat" "flat" sFlat f fd) (TF : Called K mg "flat" ["items"] f fd) (GB : FnOk P w K mg base CX0 1 fB fdB ["item"] (spBr K)) (TB : Called K mg "branches" ["item"] fB fdB) : ∀ n, FnOk P w K mg base CX0 (n + 2) f fd ["items"] (spFlat K n) := by
  intro n
  induction n with
  | zero =>
    refine F.ok scFlat (fun vs H Q E h => ?_) (fun cdv A outer s H vs Q E hr h => ?_)
    · obtain ⟨H0, p, xs, ds, rfl, _⟩ := h
      rfl
    · obtain ⟨H0, p, xs, ds, rfl, _, _, _, ft, _⟩ := h
      exact absurd ft.dep (Nat.not_lt_zero _)
  | succ n GF =>
    refine F.ok scFlat (fun vs H Q E h => ?_) (fun cdv A outer s H vs Q E hr h => ?_)
    · obtain ⟨H0, p, xs, ds, rfl, _⟩ := h
      rfl
    · obtain ⟨H0, p, xs, ds, rfl, s0, hp, ha, ft, br, q⟩ := h
      refine ⟨_, (pss_cons (ps_set (i := 1) scFlat.nd rfl (.inl rfl) (pe_lst pa_nil))
       (pss_cons (ps_for PassesOwn.never rfl (pi_tup (pv 0)) (pg_name (i := 2) scFlat.nd rfl (.inl rfl))
       (pss_cons (ps_expr (pe_bm PySem.F.plainAttrs_list PySem.F.slot_list_append PySem.F.type_list_append mt_append (pv 1) (pa_cons (pv 2) pa_nil)))
       (pss_one (ps_for PassesOwn.never rfl (pi_tup (pe_call GB (hr.mono (by first | decide | omega)) rfl TB.1 TB.2.1 TB.2.2 .nil pass0 (pa_cons (pv 2) pa_nil))) (pg_name (i := 3) scFlat.nd rfl (.inl rfl))
       (pss_one (ps_expr (pe_bm PySem.F.plainAttrs_list PySem.F.slot_list_extend PySem.F.type_list_extend mt_extend (pv 1) (pa_cons (pe_call GF (hr.mono (by first | decide | omega)) rfl TF.1 TF.2.1 TF.2.2 .nil pass0 (pa_cons (pv 3) pa_nil)) pa_nil))))))))
       (pss_one (ps_ret (pv 1))))), ?_⟩
      have len := dpl ha
      refine ⟨Nat.zero_le _, fun l nl => ?_⟩
      have cl := flat_cnt ds
      have cc := ft.cnt
      refine ⟨_, rfl, p, rfl, ⟨_, (same_upd nl).tupS hp⟩, for_tup (xs := xs)
        (fun i σ H' => ∃ (ys : List V) (v2 v3 : Option V), σ = [some (.ref p), some (.ref l), v2, v3] ∧ Same H H' ∧ H' l = some (.lst ys) ∧ DpAll K H0 ys (flat (ds.take i)))
        ⟨[], none, none, rfl, same_upd nl, upd_same, by rw [List.take_zero, flat]; exact .nil⟩ ?_ ?_ ?_⟩
      · rintro i σ H' hi ⟨ys, v2, v3, rfl, sm, _⟩
        exact sm.tupS hp
      · rintro i x σ H1 hxi ⟨ys, v2, v3, rfl, s1, hl, hy⟩
        obtain ⟨d, hd, hx⟩ := dp_get ha hxi
        have mem : d ∈ ds := List.mem_of_getElem? hd
        have tk := take_snoc hd
        have fl1 : flat (ds.take (i + 1)) = flat (ds.take i) ++ (d :: flatk d) := by rw [tk, flat_app, flat_one]
        have sub : ∀ e ∈ flat (ds.take (i + 1)), e ∈ flat ds := fun e he => by
          rw [← List.take_append_drop (i + 1) ds, flat_app]
          exact List.mem_append_left _ he
        have le1 : (flat (ds.take (i + 1))).length ≤ 60000 := by
          have z : (flat ds).length = (flat (ds.take (i + 1))).length + (flat (ds.drop (i + 1))).length := by
            rw [← List.length_append, ← flat_app, List.take_append_drop]
          omega
        have brd : BrOk d := br d (sub d (by rw [fl1]; exact List.mem_append_right _ List.mem_cons_self))
        -- found.append(item)
        have ly := dpl hy
        rw [fl1, List.length_append, List.length_cons] at le1
        refine ⟨_, rfl, .inl ⟨rfl, _, SqL.of hl⟩, _, rfl, l, _, _, rfl, rfl, hl, by rw [sizeLine_eq]; omega, ?_⟩
        have s2 : Same H (upd H1 l (.lst (ys ++ [x]))) := same_updN nl s1
        refine ⟨_, rfl, H0, x, d, rfl, s0.trans s2, hx, brd, fun H3 t ks s3 ht hk => ?_⟩
        have lk := dpl hk
        rw [List.length_map] at lk
        have l3 : H3 l = some (.lst (ys ++ [x])) := s3 _ _ upd_same
        have s03 := s2.trans s3
        refine ⟨t, rfl, ⟨_, ht⟩, for_tup (xs := ks) (fun j σ H' => ∃ (zs : List V) (v3 : Option V), σ = [some (.ref p), some (.ref l), some x, v3] ∧ Same H H' ∧ SqT K H' t ks ∧ H' l = some (.lst zs) ∧ DpAll K H0 zs (flat (ds.take i) ++ d :: ((kids d).take j).flatMap flat))
          ⟨ys ++ [x], v3, rfl, s03, ht, l3, dp_app hy (.cons hx .nil)⟩ ?_ ?_ ?_⟩
        · rintro j σ H' hj ⟨zs, v3, rfl, _, ht, _⟩
          exact ht
        · rintro j k σ H4 hkj ⟨zs, v3, rfl, s4, ht4, hl4, hz⟩
          obtain ⟨pk, xk, dk, rfl, hdk, hpk, hak⟩ := dp_map_tup hk hkj
          have memk : dk ∈ kids d := List.mem_of_getElem? hdk
          have subk : ∀ e ∈ flat dk, e ∈ flatk d := fun e he => by
            rw [flatk_kids]
            exact List.mem_flatMap.mpr ⟨dk, memk, he⟩
          refine ⟨_, rfl, .inl ⟨rfl, _, SqL.of hl4⟩, _, rfl, H0, pk, xk, dk, rfl, s0.trans s4, (s0.trans s4).tupS hpk, hak, kid_fit ((ft.mem mem)) memk, fun e he => br e (sub e (by rw [fl1]; exact List.mem_append_right _ (List.mem_cons_of_mem _ (subk e he)))), fun H5 l5 ws s5 n5 h5 hw => ?_⟩
          have lz := dpl hz
          have lw := dpl hw
          have tkk := take_snoc hdk
          have ll : (flat (ds.take i) ++ d :: ((kids d).take (j + 1)).flatMap flat).length ≤ 60000 := by
            have z : ((kids d).flatMap flat).length = (((kids d).take (j + 1)).flatMap flat).length + (((kids d).drop (j + 1)).flatMap flat).length := by
              rw [← List.length_append, ← List.flatMap_append, List.take_append_drop]
            rw [flatk_kids] at le1
            rw [List.length_append, List.length_cons]
            omega
          rw [tkk, List.flatMap_append] at ll
          simp only [List.length_append, List.length_cons, List.flatMap_cons, List.flatMap_nil, List.append_nil] at ll lz
          refine ⟨l, l5, _, _, rfl, rfl, s5 _ _ hl4, h5, by rw [sizeLine_eq]; omega, ?_⟩
          refine ⟨zs ++ ws, some (.ref pk), rfl, same_updN nl (s4.trans s5), sqT_updL (s5 _ _ hl4) (s5.tupS ht4), upd_same, ?_⟩
          rw [tkk, List.flatMap_append]
          have z := dp_app hz hw
          simpa using z
        · rintro σ H4 ⟨zs, v3, rfl, s4, ht4, hl4, hz⟩
          refine ⟨zs, some x, v3, rfl, s4, hl4, ?_⟩
          rw [fl1, flatk_kids]
          rw [lk, List.take_length] at hz
          exact hz
      · rintro σ H1 ⟨ys, v2, v3, rfl, s1, hl, hy⟩
        rw [len, List.take_length] at hy
        exact ⟨_, rfl, q H1 l ys s1 nl hl hy⟩
end
end Tr

/-! P4 -/
/-! ### is_inner, is_shaped, misshapen -/
namespace Tr
open PySem PySem.Spec PyProof.Rows L2 Rw
theorem inV_bl (b : Bool) : ∀ bs : List Bool, inV (.bl b) (bs.map V.bl) = bs.contains b
  | [] => rfl
  | c :: bs => by
    have e : inV (.bl b) ((c :: bs).map V.bl) = ((c == b) || inV (.bl b) (bs.map V.bl)) := by
      cases c <;> cases b <;> rfl
    rw [e, inV_bl b bs, List.contains_cons]
    cases c <;> cases b <;> rfl
theorem flat_bl : ∀ bs : List Bool, (bs.map V.bl).all flatV = true
  | [] => rfl
  | n :: ns => by
    show (flatV (.bl n) && (ns.map V.bl).all flatV) = true
    rw [flat_bl ns]
    rfl
theorem plain_facts {w : Str} (h : w ∈ plain6) : w ≠ "test" ∧ w ≠ "choose" ∧ w ≠ "piece" := ⟨fun e => test_not_plain (e ▸ h), fun e => choose_not_plain (e ▸ h), fun e => piece_not_plain (e ▸ h)⟩
theorem use_facts : ("use" : Str) ≠ "test" ∧ ("use" : Str) ≠ "choose" ∧ ¬ (("use" : Str) = "take" ∨ ("use" : Str) = "give" ∨ ("use" : Str) = "piece") := by decide +kernel
theorem name_str {n : D} (h : nameD n = true) : ∃ z, n = .str z := by
  cases n with
  | str z => exact ⟨z, rfl⟩
  | _ => cases h
theorem tup_of {n : D} (h : isTup n = true) : ∃ z, n = .tuple z := by
  cases n with
  | tuple z => exact ⟨z, rfl⟩
  | _ => cases h
theorem choose_lock : ¬ (("choose" : Str) = "take" ∨ ("choose" : Str) = "give" ∨ ("choose" : Str) = "piece") := by decide +kernel
theorem br_of : (d : D) → (a : Nat) → shaped d a = true → BrOk d
  | .none, _, h => by simp [shaped] at h
  | .bool _, _, h => by simp [shaped] at h
  | .int _, _, h => by simp [shaped] at h
  | .str _, _, h => by simp [shaped] at h
  | .list _, _, h => by simp [shaped] at h
  | .dict _, _, h => by simp [shaped] at h
  | .tuple [], _, h => by simp [shaped] at h
  | .tuple (.none :: _), _, h => by simp [shaped] at h
  | .tuple (.bool _ :: _), _, h => by simp [shaped] at h
  | .tuple (.int _ :: _), _, h => by simp [shaped] at h
  | .tuple (.list _ :: _), _, h => by simp [shaped] at h
  | .tuple (.tuple _ :: _), _, h => by simp [shaped] at h
  | .tuple (.dict _ :: _), _, h => by simp [shaped] at h
  | .tuple [.str w], a, h => by
    rw [shaped] at h
    have e := of_decide_eq_true h
    subst e
    exact ⟨_, _, rfl, fun e => absurd e use_facts.1, fun e => absurd e use_facts.2.1, fun e => absurd e use_facts.2.2⟩
  | .tuple [.str w, n], a, h => by
    rw [shaped, Bool.and_eq_true, Bool.and_eq_true] at h
    obtain ⟨⟨_, h2⟩, h3⟩ := h
    obtain ⟨p1, p2, _⟩ := plain_facts (of_decide_eq_true h2)
    obtain ⟨z, rfl⟩ := name_str h3
    exact ⟨_, _, rfl, fun e => absurd e p1, fun e => absurd e p2, fun _ => ⟨z, [], rfl⟩⟩
  | .tuple [.str w, n, v], a, h => by
    rw [shaped] at h
    simp only [Bool.and_eq_true] at h
    obtain ⟨_, h2⟩ := h
    by_cases e : w = "piece"
    · rw [if_pos e, Bool.and_eq_true] at h2
      obtain ⟨z, rfl⟩ := name_str h2.1
      exact ⟨_, _, rfl, fun x => absurd (e.symm.trans x) test_piece.symm, fun x => absurd (e.symm.trans x) choose_piece.symm, fun _ => ⟨z, [v], rfl⟩⟩
    · rw [if_neg e, Bool.and_eq_true] at h2
      have h3 := h2.2
      simp only [forkShape, Bool.and_eq_true] at h3
      obtain ⟨⟨h4, h5⟩, h6⟩ := h3
      have e2 := of_decide_eq_true h4
      obtain ⟨x, rfl⟩ := tup_of h5
      obtain ⟨y, rfl⟩ := tup_of h6
      subst e2
      exact ⟨_, _, rfl, fun x => absurd x test_choose.symm, fun _ => ⟨x, y, rfl⟩, fun x => absurd x choose_lock⟩
  | .tuple [.str w, n, x, y], a, h => by
    rw [shaped] at h
    simp only [forkShape, Bool.and_eq_true] at h
    obtain ⟨_, ⟨⟨h4, h7⟩, h5⟩, h6⟩ := h
    have e2 := of_decide_eq_true h4
    obtain ⟨x, rfl⟩ := tup_of h5
    obtain ⟨y, rfl⟩ := tup_of h6
    obtain ⟨z, rfl⟩ := name_str h7
    subst e2
    exact ⟨_, _, rfl, fun _ => ⟨_, x, y, rfl⟩, fun e => absurd e test_choose, fun _ => ⟨z, _, rfl⟩⟩
  | .tuple (.str w :: n :: x :: y :: z :: r), _, h => by simp [shaped] at h
theorem br_flat {ds : List D} {a : Nat} (h : (misl ds a).contains true = false) : ∀ e ∈ flat ds, BrOk e ∧ ∃ a', shaped e a' = true := by
  intro e he
  rw [← lnum_flat h] at he
  obtain ⟨p, hp, rfl⟩ := List.mem_map.mp he
  rw [misl_lnum] at h
  have z : lform p.1 p.2 = true := by
    cases hz : lform p.1 p.2 with
    | true => rfl
    | false =>
      have m : true ∈ (lnum ds a).map fun p => !lform p.1 p.2 := List.mem_map.mpr ⟨p, hp, by rw [hz]; rfl⟩
      rw [← List.contains_iff_mem, h] at m
      cases m
  rw [← shaped_lform] at z
  exact ⟨br_of _ _ z, _, z⟩
theorem misl_app : ∀ (as bs : List D) (a : Nat), misl (as ++ bs) a = misl as a ++ misl bs a
  | [], bs, a => by rw [List.nil_append, misl]; rfl
  | d :: as, bs, a => by
    rw [List.cons_append, misl, misl, misl_app as bs]
    simp
theorem misl_one (d : D) (a : Nat) : misl [d] a = (!shaped d a) :: (if shaped d a then misk d a else []) := by rw [misl, misl, List.append_nil]
theorem misk_kids (d : D) (a : Nat) : misk d a = (kids d).flatMap fun x => misl x (a + 1) := by
  unfold kids
  cases h : forkOf d with
  | none => exact (fork_none h).2.1 a
  | some p =>
    obtain ⟨x, y⟩ := p
    rw [(fork_some h).2.1]
    simp
theorem misl_cnt_aux (N : Nat) : ∀ (ds : List D) (a : Nat), sizeOf ds < N → (misl ds a).length ≤ cntAll ds := by
  induction N with
  | zero => exact fun _ _ h => absurd h (by omega)
  | succ N ih =>
    intro ds a h
    cases ds with
    | nil => rw [misl]; exact Nat.zero_le _
    | cons d ds =>
      simp at h
      rw [misl, cntAll, List.length_cons, List.length_append]
      have h1 := ih ds a (by omega)
      have h3 : (if shaped d a then misk d a else []).length ≤ (misk d a).length := by
        split
        · exact Nat.le_refl _
        · exact Nat.zero_le _
      have h2 : (misk d a).length + 1 ≤ cntD d := by
        cases hf : forkOf d with
        | none =>
          rw [(fork_none hf).2.1]
          cases d <;> simp [cntD]
        | some p =>
          obtain ⟨x, y⟩ := p
          obtain ⟨_, f1, _, _, s1, s2⟩ := fork_some hf
          obtain ⟨_, _, d3, _⟩ := fork_depth hf
          rw [f1, List.length_append]
          have a1 := ih x (a + 1) (by omega)
          have b1 := ih y (a + 1) (by omega)
          omega
      omega
theorem misl_cnt (ds : List D) (a : Nat) : (misl ds a).length ≤ cntAll ds := misl_cnt_aux _ ds a (Nat.lt_succ_self _)
theorem one_of {α : Type} {xs : List α} (h : xs.length = 1) : ∃ a, xs = [a] := by
  cases xs with
  | nil => cases h
  | cons a t =>
    have e : t = [] := List.eq_nil_of_length_eq_zero (by rw [List.length_cons] at h; omega)
    exact ⟨a, by rw [e]⟩
theorem two_of {α : Type} {xs : List α} (h : xs.length = 2) : ∃ a b, xs = [a, b] := by
  cases xs with
  | nil => cases h
  | cons a t =>
    obtain ⟨b, rfl⟩ := one_of (xs := t) (by rw [List.length_cons] at h; omega)
    exact ⟨a, b, rfl⟩
theorem drop_cons {α : Type} {xs : List α} {i : Nat} {x : α} (h : xs[i]? = some x) : xs.drop i = x :: xs.drop (i + 1) := by
  obtain ⟨hi, e⟩ := List.getElem?_eq_some_iff.mp h
  rw [List.drop_eq_getElem_cons hi, e]
def spMis (K : PySem.W.Frag) (n : Nat) : Sp := fun vs H Q _ => ∃ (p : Addr) (xs : List V) (ds : List D) (a : Nat), vs = [.ref p, .int (a : Nat)] ∧ SqT K H p xs ∧ DpAll K H xs ds ∧ Fits n ds ∧ ∀ H' l, Same H H' → H l = none → H' l = some (.lst ((misl ds a).map V.bl)) → Q (.ref l) H'
def spSh (K : PySem.W.Frag) (n : Nat) : Sp := fun vs H Q _ => ∃ (v : V) (d : D) (a : Nat), vs = [v, .int (a : Nat)] ∧ Dp K H v d ∧ FitD n d ∧ ∀ H', Same H H' → Q (.bl (shaped d a)) H'
def spInn (K : PySem.W.Frag) (n : Nat) : Sp := fun vs H Q _ => ∃ (v : V) (d : D), vs = [v] ∧ Dp K H v d ∧ FitD n d ∧ ∀ H', Same H H' → Q (.bl (innerP d)) H'
section
variable {P : Program} {w : World} {K : PySem.W.Frag} {mg : Str → Option Value} {base : Heap}
abbrev sIn : Stmt := top 24
theorem scIn : FnScope ["value", "inside", "item"] ["value"] (defScope sIn) := ⟨rfl, rfl, rfl, by decide +kernel, rfl, by decide +kernel, by decide +kernel⟩
theorem ok_inn {f fM fF iw : Addr} {fd fdM fdF : FuncData} (F : Fun K "is_inner" "is_inner" sIn f fd) (TM : Called K mg "misshapen" ["items", "around"] fM fdM) (TF : Called K mg "flat" ["items"] fF fdF) (n : Nat)
    (GM : FnOk P w K mg base CX0 (2 * n + 4) fM fdM ["items", "around"] (spMis K n)) (GF : FnOk P w K mg base CX0 (n + 2) fF fdF ["items"] (spFlat K n)) (m_isinstance : mg "isinstance" = none) (m_tuple : mg "tuple" = none) (m_all : mg "all" = none) (m_len : mg "len" = none)
    (gI : mg "INNER_WORDS" = some (.ref iw)) (hI : ∀ H, SqT K H iw (inner3.map V.str)) {tI : Tok} (mI : mg "MOST_INNER" = some (.int 4 tI)) : FnOk P w K mg base CX0 (2 * n + 5) f fd ["value"] (spInn K (n + 1)) := by
  refine F.ok scIn (fun vs H Q E h => ?_) (fun cdv A outer s H vs Q E hr h => ?_)
  · obtain ⟨v, d, rfl, _⟩ := h
    rfl
  · obtain ⟨v, d, rfl, hd, ft, q⟩ := h
    refine ⟨_, (pss_cons (ps_if (PW.pt (pw_or (pt_not (pt_val (pe_callB (call_isiKK (K := K) rfl) (by rfl) m_isinstance (by decide +kernel) (pa_cons (pv 0) (pa_cons (pe_bltn (v := .ty "tuple") (by rfl) m_tuple (by decide +kernel) rfl) pa_nil))))) (pw_or (pt_cmpR op_eq (pe_callB (call_len_K (K := K) rfl) (by rfl) m_len PySem.boot_len (pa_cons (pv 0) pa_nil)) pe_int (nomark _)) (pw_or1 (pt_cmpR (op_in_seqKK (K := K) rfl) pe_bl (pe_call GM (hr.mono (by first | decide | omega)) rfl TM.1 TM.2.1 TM.2.2 .nil pass0 (pa_cons (pv 0) (pa_cons pe_int pa_nil))) (by rfl))))))
       (pss_one (ps_ret pe_bl))
       pss_nil)
       (pss_cons (ps_set (i := 1) scIn.nd rfl (.inl rfl) (pe_call GF (hr.mono (by first | decide | omega)) rfl TF.1 TF.2.1 TF.2.2 .nil pass0 (pa_cons (pv 0) pa_nil)))
       (pss_one (ps_ret (pe_and (pe_cmpR op_le (pe_callB (call_len_K (K := K) rfl) (by rfl) m_len PySem.boot_len (pa_cons (pv 1) pa_nil)) (pe_glob (v := .int 4) rfl mI ⟨_, rfl⟩) (nomark _)) (pe_one (pe_callB (cr_all rfl) (by rfl) m_all (by decide +kernel) (pa_cons (pe_lc (own := [("item", 2)]) (g := gName 2) (tt := tYes) (by rfl) scIn.nd (pi_list (pv 1)) (blkOk_by (own := [("item", 2)]) (N := ["value", "inside", "item"]) (sc := defScope sIn) (by decide +kernel)) (fun _ _ _ _ _ => (pg_name (i := 2) scIn.nd rfl (Or.inl rfl))) (fun _ _ _ _ _ => pts_nil) (fun _ _ _ _ _ => (pe_cmpR (op_in_seqKK (K := K) rfl) (pe_ix (ix_tupK (K := K) rfl) (pv 2) pe_int (fun _ _ => rfl)) (pe_glob (v := .ref iw) rfl gI rfl) (by rfl)))) pa_nil)))))))), ?_⟩
    refine ⟨_, rfl, _, _, _, _, _, rfl, .ty _, dp_ty hd, kit_tup d, _, rfl, ?_⟩
    cases htp : isTup d with
    | false =>
      have e : innerP d = false := by
        cases d with
        | tuple _ => cases htp
        | _ => simp [innerP]
      rw [e] at q
      exact iteT (iteT (q H (Same.refl H)))
    | true =>
      refine iteF ?_
      obtain ⟨ds, rfl⟩ := tup_of htp
      rw [innerP] at q
      cases hd with
      | @tup p xs _ hp ha =>
      have len := dpl ha
      refine ⟨_, rfl, p, _, rfl, .inr hp, rfl, _, rfl, ?_⟩
      rw [len, int_dec 0 0 rfl]
      by_cases e0 : ds.length = 0
      · rw [decide_eq_true e0]
        rw [List.eq_nil_of_length_eq_zero e0] at q
        exact iteT (iteT (q H (Same.refl H)))
      · rw [decide_eq_false e0]
        have e1 : ds.isEmpty = false := by
          cases ds with
          | nil => exact absurd rfl e0
          | cons _ _ => rfl
        rw [e1] at q
        refine iteF ?_
        refine ⟨_, rfl, p, xs, ds, 0, rfl, hp, ha, ft.inside, fun H1 l s1 nl hl => ?_⟩
        refine ⟨l, _, rfl, .inl (SqL.of hl), rfl, flat_bl _, _, rfl, ?_⟩
        rw [if_neg Bool.false_ne_true, inV_bl]
        cases hc : (misl ds 0).contains true with
        | true =>
          rw [hc] at q
          exact iteT (q H1 s1)
        | false =>
          rw [hc] at q
          refine iteF ?_
          refine ⟨_, rfl, H, p, xs, ds, rfl, s1, s1.tupS hp, ha, ft.inside, fun e he => (br_flat hc e he).1, fun H2 l2 ys s2 n2 h2 hy => ?_⟩
          have s12 := s1.trans s2
          have ly := dpl hy
          refine ⟨_, rfl, l2, _, rfl, .inl (SqL.of h2), _, _, rfl, rfl, _, rfl, ?_⟩
          have e3 : decide ((ys.length : Int) ≤ 4) = decide ((flat ds).length ≤ 4) := by
            rw [ly]
            by_cases h : (flat ds).length ≤ 4
            · rw [decide_eq_true h, decide_eq_true (by omega)]
            · rw [decide_eq_false h, decide_eq_false (by omega)]
          rw [e3]
          cases h4 : decide ((flat ds).length ≤ 4) with
          | false =>
            rw [h4] at q
            exact iteF (q H2 s12)
          | true =>
            rw [h4] at q
            refine iteT ?_
            have h5 := of_decide_eq_true h4
            refine ⟨_, rfl, l2, rfl, ⟨_, SqL.of h2⟩, fun L nL => lc_list (K := K) (a := l2) (xs := ys) (fun i H' => Same H2 H' ∧ H' L = some (.lst (((flat ds).take i).map fun d => V.bl (wordIn d)))) ⟨same_upd nL, upd_same⟩ (fun i H' _ h => h.1.seq (SqL.of h2)) ?_ ?_⟩
            · rintro i x H3 hxi ⟨s3, e1⟩
              obtain ⟨d, hd1, hdx⟩ := dp_get hy hxi
              obtain ⟨wd, r, rfl, _⟩ := (br_flat hc d (List.mem_of_getElem? hd1)).1
              refine ⟨rfl, ?_⟩
              dsimp only [tYes]
              rw [if_pos rfl]
              cases hdx with
              | @tup px xx _ hpx hax =>
              cases hax with
              | @cons x0 xx _ _ h0 hax =>
              cases h0
              refine ⟨_, rfl, px, _, _, _, rfl, rfl, (s12.trans s3).tupS hpx, at0, iw, _, rfl, .inr (hI H3), rfl, flat_txt _, ?_⟩
              rw [if_neg Bool.false_ne_true, inV_txt]
              refine ⟨_, e1, ?_, same_updN nL s3, ?_⟩
              · rw [List.length_map, List.length_take, sizeLine_eq]
                omega
              · rw [upd_same, take_snoc hd1, List.map_append]
                rfl
            · rintro H3 ⟨s3, e1⟩
              rw [ly, List.take_length] at e1
              have e6 : ((flat ds).map fun d => V.bl (wordIn d)) = ((flat ds).map wordIn).map V.bl := by rw [List.map_map]; rfl
              rw [e6] at e1
              refine ⟨L, _, rfl, .inl (.inl e1), ?_⟩
              have e4 : ((flat ds).map wordIn).all id = (flat ds).all wordIn := by rw [List.all_map]; rfl
              rw [e4]
              exact q H3 (s12.trans s3)
abbrev sSh : Stmt := top 21
theorem scSh : FnScope ["value", "around", "word"] ["value", "around"] (defScope sSh) := ⟨rfl, rfl, rfl, by decide +kernel, rfl, by decide +kernel, by decide +kernel⟩
theorem ok_sh {f fN fI fK pw : Addr} {fd fdN fdI fdK : FuncData} (F : Fun K "is_shaped" "is_shaped" sSh f fd) (TN : Called K mg "is_name" ["value"] fN fdN) (TI : Called K mg "is_inner" ["value"] fI fdI) (TK : Called K mg "is_fork" ["value"] fK fdK) (n : Nat)
    (GN : FnOk P w K mg base CX0 1 fN fdN ["value"] (spName K)) (GI : FnOk P w K mg base CX0 (2 * n + 3) fI fdI ["value"] (spInn K n)) (GK : FnOk P w K mg base CX0 2 fK fdK ["value"] (spFork K))
    (m_isinstance : mg "isinstance" = none) (m_tuple : mg "tuple" = none) (m_str : mg "str" = none) (m_len : mg "len" = none)
    (gP : mg "PLAIN_WORDS" = some (.ref pw)) (hP : ∀ H, SqT K H pw (plain6.map V.str)) {tW : Tok} (mW : mg "MOST_WITHIN" = some (.int 3 tW)) : FnOk P w K mg base CX0 (2 * n + 5) f fd ["value", "around"] (spSh K (n + 1)) := by
  refine F.ok scSh (fun vs H Q E h => ?_) (fun cdv A outer s H vs Q E hr h => ?_)
  · obtain ⟨v, d, a, rfl, _⟩ := h
    rfl
  · obtain ⟨v, d, a, rfl, hd, ft, q⟩ := h
    refine ⟨_, (pss_cons (ps_if (PW.pt (pw_or (pt_not (pt_val (pe_callB (call_isiKK (K := K) rfl) (by rfl) m_isinstance (by decide +kernel) (pa_cons (pv 0) (pa_cons (pe_bltn (v := .ty "tuple") (by rfl) m_tuple (by decide +kernel) rfl) pa_nil))))) (pw_or (pt_cmpR op_eq (pe_callB (call_len_K (K := K) rfl) (by rfl) m_len PySem.boot_len (pa_cons (pv 0) pa_nil)) pe_int (nomark _)) (pw_or1 (pt_not (pt_val (pe_callB (call_isiKK (K := K) rfl) (by rfl) m_isinstance (by decide +kernel) (pa_cons (pe_ix (ix_tupK (K := K) rfl) (pv 0) pe_int (fun _ _ => rfl)) (pa_cons (pe_bltn (v := .ty "str") (by rfl) m_str (by decide +kernel) rfl) pa_nil)))))))))
       (pss_one (ps_ret pe_bl))
       pss_nil)
       (pss_cons (ps_set (i := 2) scSh.nd rfl (.inl rfl) (pe_ix (ix_tupK (K := K) rfl) (pv 0) pe_int (fun _ _ => rfl)))
       (pss_cons (ps_if (pt_cmpR op_eq (pv 2) pe_str (nomark _))
       (pss_one (ps_ret (pe_cmpR op_eq (pe_callB (call_len_K (K := K) rfl) (by rfl) m_len PySem.boot_len (pa_cons (pv 0) pa_nil)) pe_int (nomark _))))
       pss_nil)
       (pss_cons (ps_if (pt_cmpR (op_in_seqKK (K := K) rfl) (pv 2) (pe_glob (v := .ref pw) rfl gP rfl) (by rfl))
       (pss_one (ps_ret (pe_and (pe_cmpR op_eq (pe_callB (call_len_K (K := K) rfl) (by rfl) m_len PySem.boot_len (pa_cons (pv 0) pa_nil)) pe_int (nomark _)) (pe_one (pe_call GN (hr.mono (by first | decide | omega)) rfl TN.1 TN.2.1 TN.2.2 .nil pass0 (pa_cons (pe_ix (ix_tupK (K := K) rfl) (pv 0) pe_int (fun _ _ => rfl)) pa_nil))))))
       pss_nil)
       (pss_cons (ps_if (pt_cmpR op_eq (pv 2) pe_str (nomark _))
       (pss_one (ps_ret (pe_and (pe_cmpR op_eq (pe_callB (call_len_K (K := K) rfl) (by rfl) m_len PySem.boot_len (pa_cons (pv 0) pa_nil)) pe_int (nomark _)) (pe_and (pe_call GN (hr.mono (by first | decide | omega)) rfl TN.1 TN.2.1 TN.2.2 .nil pass0 (pa_cons (pe_ix (ix_tupK (K := K) rfl) (pv 0) pe_int (fun _ _ => rfl)) pa_nil)) (pe_one (pe_call GI (hr.mono (by first | decide | omega)) rfl TI.1 TI.2.1 TI.2.2 .nil pass0 (pa_cons (pe_ix (ix_tupK (K := K) rfl) (pv 0) pe_int (fun _ _ => rfl)) pa_nil)))))))
       pss_nil)
       (pss_one (ps_ret (pe_and (pe_cmpR op_lt (pv 1) (pe_glob (v := .int 3) rfl mW ⟨_, rfl⟩) (nomark _)) (pe_one (pe_call GK (hr.mono (by first | decide | omega)) rfl TK.1 TK.2.1 TK.2.2 .nil pass0 (pa_cons (pv 0) pa_nil))))))))))), ?_⟩
    refine ⟨_, rfl, _, _, _, _, _, rfl, .ty _, dp_ty hd, kit_tup d, _, rfl, ?_⟩
    cases htp : isTup d with
    | false =>
      have e : shaped d a = false := by
        cases d with
        | tuple _ => cases htp
        | _ => simp [shaped]
      rw [e] at q
      exact iteT (iteT (q H (Same.refl H)))
    | true =>
      refine iteF ?_
      obtain ⟨ds, rfl⟩ := tup_of htp
      cases hd with
      | @tup p xs _ hp ha =>
      have len := dpl ha
      refine ⟨_, rfl, p, _, rfl, .inr hp, rfl, _, rfl, ?_⟩
      rw [len, int_dec 0 0 rfl]
      cases ha with
      | nil =>
        have e : shaped (.tuple []) a = false := by simp [shaped]
        rw [e] at q
        rw [decide_eq_true (p := ([] : List D).length = 0) rfl]
        exact iteT (iteT (q H (Same.refl H)))
      | @cons x0 xs d0 ds h0 ha =>
        rw [decide_eq_false (by rw [List.length_cons]; omega)]
        refine iteF ?_
        refine ⟨_, rfl, p, _, _, _, rfl, rfl, hp, at0, _, _, _, _, _, rfl, .ty _, dp_ty h0, kit_str d0, _, rfl, ?_⟩
        cases hst : isStr d0 with
        | false =>
          have e : shaped (.tuple (d0 :: ds)) a = false := by
            cases d0 with
            | str _ => cases hst
            | _ => simp [shaped]
          rw [e] at q
          exact iteT (q H (Same.refl H))
        | true =>
          obtain ⟨wd, rfl⟩ : ∃ z, d0 = .str z := by
            cases d0 with
            | str z => exact ⟨z, rfl⟩
            | _ => cases hst
          cases h0
          refine iteF ?_
          refine ⟨_, rfl, p, _, _, _, rfl, rfl, hp, at0, ?_⟩
          refine ⟨_, rfl, rfl, _, rfl, ?_⟩
          rw [Rw.dec_str]
          have lenE : (V.str wd :: xs).length = ds.length + 1 := by rw [List.length_cons, dpl ha]
          have fit : ∀ d ∈ ds, FitD n d := fun d hd => ft.inside.tail.mem hd
          by_cases h1 : wd = "use"
          · rw [decide_eq_true h1]
            refine iteT ?_
            refine ⟨_, rfl, p, _, rfl, .inr hp, rfl, ?_⟩
            rw [lenE, int_dec 1 1 rfl]
            have e : shaped (.tuple (.str wd :: ds)) a = decide (ds.length + 1 = 1) := by
              match ds with
              | [] => simp [shaped, h1]
              | [_] => simp [shaped, h1]
              | [_, _] => simp [shaped, h1]
              | [_, _, _] => simp [shaped, h1]
              | _ :: _ :: _ :: _ :: _ => simp [shaped]
            rw [← e]
            exact q H (Same.refl H)
          · rw [decide_eq_false h1]
            refine iteF ?_
            refine ⟨_, rfl, pw, _, rfl, .inr (hP H), rfl, flat_txt _, _, rfl, ?_⟩
            rw [if_neg Bool.false_ne_true, inV_txt]
            by_cases h2 : wd ∈ plain6
            · rw [decide_eq_true h2]
              refine iteT ?_
              refine ⟨_, rfl, p, _, rfl, .inr hp, rfl, _, rfl, ?_⟩
              rw [lenE, int_dec 2 2 rfl]
              by_cases h3 : ds.length = 1
              · rw [decide_eq_true (by omega)]
                obtain ⟨nd, rfl⟩ := one_of h3
                cases ha with
                | cons hn ha =>
                cases ha
                refine iteT ?_
                refine ⟨_, rfl, p, _, _, _, rfl, rfl, hp, at1, _, _, rfl, dp_nv hn (fit nd List.mem_cons_self).small, fun H1 s1 => ?_⟩
                have e : shaped (.tuple [.str wd, nd]) a = nameD nd := by simp [shaped, h1, h2]
                rw [← e]
                exact q H1 s1
              · rw [decide_eq_false (by omega)]
                have e : shaped (.tuple (.str wd :: ds)) a = false := by
                  match ds, h3 with
                  | [], _ => simp [shaped, h1]
                  | [_], h3 => exact absurd rfl h3
                  | [_, _], _ => simp [shaped, h2]
                  | [_, _, _], _ => simp [shaped, h2]
                  | _ :: _ :: _ :: _ :: _, _ => simp [shaped]
                rw [e] at q
                exact iteF (q H (Same.refl H))
            · rw [decide_eq_false h2]
              refine iteF ?_
              refine ⟨_, rfl, rfl, _, rfl, ?_⟩
              rw [Rw.dec_str]
              by_cases h4 : wd = "piece"
              · rw [decide_eq_true h4]
                refine iteT ?_
                refine ⟨_, rfl, p, _, rfl, .inr hp, rfl, _, rfl, ?_⟩
                rw [lenE, int_dec 3 3 rfl]
                by_cases h3 : ds.length = 2
                · rw [decide_eq_true (by omega)]
                  obtain ⟨nd, vd, rfl⟩ := two_of h3
                  cases ha with
                  | cons hn ha =>
                  cases ha with
                  | cons hv ha =>
                  cases ha
                  refine iteT ?_
                  refine ⟨_, rfl, p, _, _, _, rfl, rfl, hp, at1, _, _, rfl, dp_nv hn (fit nd List.mem_cons_self).small, fun H1 s1 => ⟨_, rfl, ?_⟩⟩
                  have e : shaped (.tuple [.str wd, nd, vd]) a = (nameD nd && innerP vd) := by simp [shaped, h1, h2, h4, piece_use, piece_not_plain]
                  rw [e] at q
                  cases hnm : nameD nd with
                  | false =>
                    rw [hnm] at q
                    exact iteF (q H1 s1)
                  | true =>
                    rw [hnm] at q
                    refine iteT ?_
                    refine ⟨_, rfl, p, _, _, _, rfl, rfl, s1.tupS hp, at2, _, _, rfl, hv.same s1, fit vd (List.mem_cons_of_mem _ List.mem_cons_self), fun H2 s2 => ?_⟩
                    exact q H2 (s1.trans s2)
                · rw [decide_eq_false (by omega)]
                  have e : shaped (.tuple (.str wd :: ds)) a = false := by
                    match ds, h3 with
                    | [], _ => simp [shaped, h1]
                    | [_], _ => simp [shaped, h2]
                    | [_, _], h3 => exact absurd rfl h3
                    | [_, _, _], _ => simp [shaped, h4]
                    | _ :: _ :: _ :: _ :: _, _ => simp [shaped]
                  rw [e] at q
                  exact iteF (q H (Same.refl H))
              · rw [decide_eq_false h4]
                refine iteF ?_
                have e : shaped (.tuple (.str wd :: ds)) a = (decide (a < 3) && forkShape wd ds) := by
                  match ds with
                  | [] => simp [shaped, h1, forkShape]
                  | [_] => simp [shaped, h2, forkShape]
                  | [_, _] => simp [shaped, h1, h2, h4]
                  | [_, _, _] => simp [shaped, h1, h2, h4]
                  | _ :: _ :: _ :: _ :: _ => simp [shaped, forkShape]
                rw [e] at q
                refine ⟨_, rfl, _, _, rfl, rfl, _, rfl, ?_⟩
                have e3 : decide ((a : Int) < 3) = decide (a < 3) := by
                  by_cases h : a < 3
                  · rw [decide_eq_true h, decide_eq_true (by omega)]
                  · rw [decide_eq_false h, decide_eq_false (by omega)]
                rw [e3]
                cases h5 : decide (a < 3) with
                | false =>
                  rw [h5] at q
                  exact iteF (q H (Same.refl H))
                | true =>
                  rw [h5] at q
                  refine iteT ?_
                  exact ⟨_, rfl, p, _, wd, ds, rfl, hp, .cons (.str wd) ha, fun d hd => (fit d hd).small, q⟩
abbrev sMis : Stmt := top 20
theorem scMis : FnScope ["items", "around", "found", "item", "fit", "inner"] ["items", "around"] (defScope sMis) := ⟨rfl, rfl, rfl, by decide +kernel, rfl, by decide +kernel, by decide +kernel⟩
theorem ok_mis {f fS fB : Addr} {fd fdS fdB : FuncData} (F : Fun K "misshapen" "misshapen" sMis f fd) (TM : Called K mg "misshapen" ["items", "around"] f fd) (TS : Called K mg "is_shaped" ["value", "around"] fS fdS) (TB : Called K mg "branches" ["item"] fB fdB) (n : Nat)
    (GS : FnOk P w K mg base CX0 (2 * n + 5) fS fdS ["value", "around"] (spSh K (n + 1))) (GM : FnOk P w K mg base CX0 (2 * n + 4) f fd ["items", "around"] (spMis K n)) (GB : FnOk P w K mg base CX0 1 fB fdB ["item"] (spBr K)) : FnOk P w K mg base CX0 (2 * n + 6) f fd ["items", "around"] (spMis K (n + 1)) := by
  refine F.ok scMis (fun vs H Q E h => ?_) (fun cdv A outer s H vs Q E hr h => ?_)
  · obtain ⟨p, xs, ds, a, rfl, _⟩ := h
    rfl
  · obtain ⟨p, xs, ds, a, rfl, hp, ha, ft, q⟩ := h
    refine ⟨_, (pss_cons (ps_set (i := 2) scMis.nd rfl (.inl rfl) (pe_lst pa_nil))
       (pss_cons (ps_for PassesOwn.never rfl (pi_tup (pv 0)) (pg_name (i := 3) scMis.nd rfl (.inl rfl))
       (pss_cons (ps_set (i := 4) scMis.nd rfl (.inl rfl) (pe_call GS (hr.mono (by first | decide | omega)) rfl TS.1 TS.2.1 TS.2.2 .nil pass0 (pa_cons (pv 3) (pa_cons (pv 1) pa_nil))))
       (pss_cons (ps_expr (pe_bm PySem.F.plainAttrs_list PySem.F.slot_list_append PySem.F.type_list_append mt_append (pv 2) (pa_cons (pe_not (pv 4)) pa_nil)))
       (pss_one (ps_if (pt_val (pv 4))
       (pss_one (ps_for PassesOwn.never rfl (pi_tup (pe_call GB (hr.mono (by first | decide | omega)) rfl TB.1 TB.2.1 TB.2.2 .nil pass0 (pa_cons (pv 3) pa_nil))) (pg_name (i := 5) scMis.nd rfl (.inl rfl))
       (pss_one (ps_expr (pe_bm PySem.F.plainAttrs_list PySem.F.slot_list_extend PySem.F.type_list_extend mt_extend (pv 2) (pa_cons (pe_call GM (hr.mono (by first | decide | omega)) rfl TM.1 TM.2.1 TM.2.2 .nil pass0 (pa_cons (pv 5) (pa_cons (pe_op op_add (pv 1) pe_int) pa_nil))) pa_nil))))))
       pss_nil)))))
       (pss_one (ps_ret (pv 2))))), ?_⟩
    have len := dpl ha
    refine ⟨Nat.zero_le _, fun l nl => ?_⟩
    have cl := misl_cnt ds a
    have cc := ft.cnt
    have small : ∀ as bs : List Bool, as ++ bs = misl ds a → as.length < sizeLine := fun as bs e => by
      have z := congrArg List.length e
      rw [List.length_append] at z
      rw [sizeLine_eq]
      omega
    refine ⟨_, rfl, p, rfl, ⟨_, (same_upd nl).tupS hp⟩, for_tup (xs := xs)
      (fun i σ H' => ∃ (done : List Bool) (v3 v4 v5 : Option V), σ = [some (.ref p), some (.int (a : Nat)), some (.ref l), v3, v4, v5] ∧ Same H H' ∧ H' l = some (.lst (done.map V.bl)) ∧ done ++ misl (ds.drop i) a = misl ds a)
      ⟨[], none, none, none, rfl, same_upd nl, upd_same, rfl⟩ ?_ ?_ ?_⟩
    · rintro i σ H' hi ⟨_, v3, v4, v5, rfl, sm, _⟩
      exact sm.tupS hp
    · rintro i x σ H1 hxi ⟨done, v3, v4, v5, rfl, s1, hl, e⟩
      obtain ⟨d, hd, hx⟩ := dp_get ha hxi
      have mem : d ∈ ds := List.mem_of_getElem? hd
      rw [drop_cons hd, misl] at e
      refine ⟨_, rfl, _, rfl, x, d, a, rfl, hx.same s1, ft.mem mem, fun H2 s2 => ?_⟩
      have s12 := s1.trans s2
      refine ⟨_, rfl, .inl ⟨rfl, _, SqL.of (s2 _ _ hl)⟩, _, rfl, _, rfl, l, _, _, rfl, rfl, s2 _ _ hl, by rw [List.length_map]; exact small _ _ e, ?_⟩
      have hl3 : (upd H2 l (.lst (done.map V.bl ++ [V.bl (!shaped d a)]))) l = some (.lst ((done ++ [!shaped d a]).map V.bl)) := by rw [upd_same, List.map_append]; rfl
      have s3 : Same H (upd H2 l (.lst (done.map V.bl ++ [V.bl (!shaped d a)]))) := same_updN nl s12
      generalize upd H2 l (.lst (done.map V.bl ++ [V.bl (!shaped d a)])) = H3 at hl3 s3
      refine ⟨_, rfl, _, rfl, ?_⟩
      cases hs : shaped d a with
      | false =>
        rw [hs] at e hl3
        refine iteF ⟨done ++ [true], _, _, _, rfl, s3, hl3, ?_⟩
        rw [← e]
        simp
      | true =>
        rw [hs, if_pos rfl, misk_kids] at e
        rw [hs] at hl3
        refine iteT ?_
        refine ⟨_, rfl, H, x, d, rfl, s3, hx, br_of d a hs, fun H4 t ks s4 ht hk => ?_⟩
        have lk := dpl hk
        rw [List.length_map] at lk
        refine ⟨t, rfl, ⟨_, ht⟩, for_tup (xs := ks) (fun j σ H' => ∃ (dn : List Bool) (v5 : Option V), σ = [some (.ref p), some (.int (a : Nat)), some (.ref l), some x, some (.bl true), v5] ∧ Same H H' ∧ SqT K H' t ks ∧ H' l = some (.lst (dn.map V.bl)) ∧ dn ++ (((kids d).drop j).flatMap (fun x => misl x (a + 1)) ++ misl (ds.drop (i + 1)) a) = misl ds a)
          ⟨done ++ [false], v5, rfl, s3.trans s4, ht, s4 _ _ hl3, by rw [← e]; simp⟩ ?_ ?_ ?_⟩
        · rintro j σ H' hj ⟨dn, v5, rfl, _, ht, _⟩
          exact ht
        · rintro j k σ H5 hkj ⟨dn, v5, rfl, s5, ht5, hl5, e5⟩
          obtain ⟨pk, xk, dk, rfl, hdk, hpk, hak⟩ := dp_map_tup hk hkj
          have memk : dk ∈ kids d := List.mem_of_getElem? hdk
          rw [drop_cons hdk, List.flatMap_cons] at e5
          refine ⟨_, rfl, .inl ⟨rfl, _, SqL.of hl5⟩, _, rfl, _, rfl, _, _, rfl, rfl, pk, xk, dk, a + 1, rfl, s5.tupS hpk, hak.same s5, kid_fit (ft.mem mem) memk, fun H6 l6 s6 n6 h6 => ?_⟩
          refine ⟨l, l6, _, _, rfl, rfl, s6 _ _ hl5, h6, ?_, ?_⟩
          · have z := congrArg List.length e5
            simp only [List.length_append] at z
            rw [List.length_map, List.length_map, sizeLine_eq]
            omega
          refine ⟨dn ++ misl dk (a + 1), some (.ref pk), rfl, same_updN nl (s5.trans s6), sqT_updL (s6 _ _ hl5) (s6.tupS ht5), by rw [upd_same, List.map_append], ?_⟩
          rw [← e5]
          simp
        · rintro σ H5 ⟨dn, v5, rfl, s5, ht5, hl5, e5⟩
          refine ⟨dn, _, _, _, rfl, s5, hl5, ?_⟩
          rw [lk, List.drop_length] at e5
          exact e5
    · rintro σ H1 ⟨done, v3, v4, v5, rfl, s1, hl, e⟩
      rw [len, List.drop_length, misl, List.append_nil] at e
      rw [e] at hl
      exact ⟨_, rfl, q H1 l s1 nl hl⟩
end
end Tr

/-! M3 -/
/-! ### takes and gives over a tree, the locks held, as plain functions -/
namespace Tr
open PySem PySem.Spec PyProof.Rows L2 Rw
def giveD (n : Str) : D := .tuple [.str "give", .str n]
/-- is_wrong -/
def isWr (d : D) (later : List D) (ar t : List Str) : Bool :=
  if wD d = "give" then !decide (t.drop (t.length - 1) = [nmD d])
  else if wD d = "take" then (if nmD d ∈ ar ++ t then true else !(later.any fun z => PyData.eqv z (giveD (nmD d))))
  else decide (wD d = "piece") && decide (nmD d ∈ ar ++ t)
mutual
/-- wrong_locks, from the names taken so far -/
def wl : List D → List Str → List Str → List Bool
  | [], _, _ => []
  | d :: ds, t, ar => isWr d ds ar t :: (wlk d (ar ++ behindD d t) ++ wl ds (behindD d t) ar)
termination_by ds => sizeOf ds
def wlk : D → List Str → List Bool
  | .tuple [.str w, _, .tuple x, .tuple y], ar => if w = "test" then wl x [] ar ++ wl y [] ar else []
  | .tuple [.str w, .tuple x, .tuple y], ar => if w = "choose" then wl x [] ar ++ wl y [] ar else []
  | _, _ => []
termination_by d => sizeOf d
end
mutual
/-- held_along -/
def hl : List D → List Str → List (List Str)
  | [], _ => []
  | d :: ds, h => h :: (hlk d h ++ hl ds (behindD d h))
termination_by ds => sizeOf ds
def hlk : D → List Str → List (List Str)
  | .tuple [.str w, _, .tuple x, .tuple y], h => if w = "test" then hl x h ++ hl y h else []
  | .tuple [.str w, .tuple x, .tuple y], h => if w = "choose" then hl x h ++ hl y h else []
  | _, _ => []
termination_by d => sizeOf d
end
mutual
/-- ways_along: the next places of each item, the first item at s, behind the last one b -/
def wa : List D → Nat → Nat → List (List Nat)
  | [], _, _ => []
  | d :: ds, s, b => wo d s (if ds.isEmpty then b else s + (flat [d]).length) ++ wa ds (s + (flat [d]).length) b
termination_by ds => (sizeOf ds, 0)
/-- ways_of -/
def wo : D → Nat → Nat → List (List Nat)
  | .tuple [.str w, n, .tuple x, .tuple y], s, f => if w = "test" then woF x y s f ++ wa x (s + 1) f ++ wa y (s + 1 + (flat x).length) f else [[f]]
  | .tuple [.str w, .tuple x, .tuple y], s, f => if w = "choose" then woF x y s f ++ wa x (s + 1) f ++ wa y (s + 1 + (flat x).length) f else [[f]]
  | _, _, f => [[f]]
termination_by d => (sizeOf d, 0)
def woF : List D → List D → Nat → Nat → List (List Nat)
  | x, y, s, f => [[if x.isEmpty then f else s + 1, if y.isEmpty then f else s + 1 + (flat x).length]]
termination_by (0, 0)
end
theorem fork2_none {d : D} (h : forkOf d = none) : (∀ a, wlk d a = []) ∧ (∀ a, hlk d a = []) ∧ ∀ s f, wo d s f = [[f]] := by
  unfold forkOf at h
  split at h
  · split at h
    · cases h
    · next hw => exact ⟨fun a => by rw [wlk, if_neg hw], fun a => by rw [hlk, if_neg hw], fun s f => by rw [wo, if_neg hw]⟩
  · split at h
    · cases h
    · next hw => exact ⟨fun a => by rw [wlk, if_neg hw], fun a => by rw [hlk, if_neg hw], fun s f => by rw [wo, if_neg hw]⟩
  · next h1 h2 =>
    refine ⟨fun a => ?_, fun a => ?_, fun s f => ?_⟩
    · rw [wlk] <;> assumption
    · rw [hlk] <;> assumption
    · rw [wo] <;> assumption
theorem fork2_some {d : D} {x y : List D} (h : forkOf d = some (x, y)) : (∀ a, wlk d a = wl x [] a ++ wl y [] a) ∧ (∀ a, hlk d a = hl x a ++ hl y a) ∧ ∀ s f, wo d s f = [[if x.isEmpty then f else s + 1, if y.isEmpty then f else s + 1 + (flat x).length]] ++ wa x (s + 1) f ++ wa y (s + 1 + (flat x).length) f := by
  unfold forkOf at h
  split at h
  · split at h
    · next hw =>
      cases h
      exact ⟨fun a => by rw [wlk, if_pos hw], fun a => by rw [hlk, if_pos hw], fun s f => by rw [wo, if_pos hw, woF]⟩
    · cases h
  · split at h
    · next hw =>
      cases h
      exact ⟨fun a => by rw [wlk, if_pos hw], fun a => by rw [hlk, if_pos hw], fun s f => by rw [wo, if_pos hw, woF]⟩
    · cases h
  · cases h
theorem wlk_kids (d : D) (a : List Str) : wlk d a = (kids d).flatMap fun x => wl x [] a := by
  unfold kids
  cases h : forkOf d with
  | none => exact (fork2_none h).1 a
  | some p =>
    obtain ⟨x, y⟩ := p
    rw [(fork2_some h).1]
    simp
theorem hlk_kids (d : D) (a : List Str) : hlk d a = (kids d).flatMap fun x => hl x a := by
  unfold kids
  cases h : forkOf d with
  | none => exact (fork2_none h).2.1 a
  | some p =>
    obtain ⟨x, y⟩ := p
    rw [(fork2_some h).2.1]
    simp
/-- each of them has as many as there are items -/
theorem lens_aux (N : Nat) : ∀ ds : List D, sizeOf ds < N → (∀ t a, (wl ds t a).length = (flat ds).length) ∧ (∀ h, (hl ds h).length = (flat ds).length) ∧ ∀ s b, (wa ds s b).length = (flat ds).length := by
  induction N with
  | zero => exact fun _ h => absurd h (by omega)
  | succ N ih =>
    intro ds h
    cases ds with
    | nil => rw [flat]; exact ⟨fun t a => by rw [wl]; rfl, fun h => by rw [hl]; rfl, fun s b => by rw [wa]; rfl⟩
    | cons d ds =>
      simp at h
      obtain ⟨i1, i2, i3⟩ := ih ds (by omega)
      have key : (∀ a, (wlk d a).length = (flatk d).length) ∧ (∀ a, (hlk d a).length = (flatk d).length) ∧ ∀ s f, (wo d s f).length = (flatk d).length + 1 := by
        cases hf : forkOf d with
        | none =>
          obtain ⟨e1, e2, e3⟩ := fork2_none hf
          rw [(fork_none hf).1]
          exact ⟨fun a => by rw [e1]; rfl, fun a => by rw [e2]; rfl, fun s f => by rw [e3]; rfl⟩
        | some p =>
          obtain ⟨x, y⟩ := p
          obtain ⟨e1, e2, e3⟩ := fork2_some hf
          obtain ⟨f1, _, _, _, s1, s2⟩ := fork_some hf
          obtain ⟨x1, x2, x3⟩ := ih x (by omega)
          obtain ⟨y1, y2, y3⟩ := ih y (by omega)
          rw [f1]
          refine ⟨fun a => ?_, fun a => ?_, fun s f => ?_⟩
          · rw [e1, List.length_append, List.length_append, x1, y1]
          · rw [e2, List.length_append, List.length_append, x2, y2]
          · rw [e3, List.length_append, List.length_append, List.length_append, x3, y3]
            simp only [List.length_cons, List.length_nil]
            omega
      obtain ⟨k1, k2, k3⟩ := key
      rw [flat]
      refine ⟨fun t a => ?_, fun h => ?_, fun s b => ?_⟩
      · rw [wl, List.length_cons, List.length_append, List.length_cons, List.length_append, k1, i1]
      · rw [hl, List.length_cons, List.length_append, List.length_cons, List.length_append, k2, i2]
      · rw [wa, List.length_append, List.length_cons, List.length_append, k3, i3]
        omega
theorem wl_len (ds : List D) (t a : List Str) : (wl ds t a).length = (flat ds).length := (lens_aux _ ds (Nat.lt_succ_self _)).1 t a
theorem hl_len (ds : List D) (h : List Str) : (hl ds h).length = (flat ds).length := (lens_aux _ ds (Nat.lt_succ_self _)).2.1 h
theorem wa_len (ds : List D) (s b : Nat) : (wa ds s b).length = (flat ds).length := (lens_aux _ ds (Nat.lt_succ_self _)).2.2 s b
theorem wo_len (d : D) (s f : Nat) : (wo d s f).length = (flat [d]).length := by
  have h := wa_len [d] s f
  rw [wa, wa, List.append_nil] at h
  exact h
/-- the least that keeps the texts of a datum -/
theorem good_nm {d : D} (h : goodD d = true) : BrOk d → (wD d = "take" ∨ wD d = "give" ∨ wD d = "piece") → sOk (nmD d) := by
  rintro ⟨w, r, rfl, _, _, b3⟩ hw
  obtain ⟨n, r', rfl⟩ := b3 hw
  simp only [goodD, goodAll, Bool.and_eq_true] at h
  exact h.2.1.1
theorem behindD_ok {d : D} {t : List Str} (h : ∀ n ∈ t, sOk n) (g : goodD d = true) (b : BrOk d) : ∀ n ∈ behindD d t, sOk n := by
  intro n hn
  unfold behindD at hn
  split at hn
  · next e =>
    rcases List.mem_append.mp hn with hn | hn
    · exact h n hn
    · rcases List.mem_cons.mp hn with rfl | hn
      · exact good_nm g b (.inl e)
      · cases hn
  · split at hn
    · exact h n (List.dropLast_subset _ hn)
    · exact h n hn
theorem behindD_len (d : D) (h : List Str) : (behindD d h).length ≤ h.length + 1 := by
  unfold behindD
  split
  · rw [List.length_append]; exact Nat.le_refl _
  · split
    · rw [List.length_dropLast]; omega
    · omega
theorem kid_flat {d : D} {x : List D} (h : x ∈ kids d) : (flat x).length ≤ (flatk d).length ∧ ∀ e ∈ flat x, e ∈ flatk d := by
  rw [flatk_kids]
  refine ⟨?_, fun e he => List.mem_flatMap.mpr ⟨x, h, he⟩⟩
  obtain ⟨a, b, e⟩ := List.append_of_mem h
  rw [e, List.flatMap_append, List.flatMap_cons, List.length_append, List.length_append]
  omega
end Tr

/-! P5 -/
/-! ### is_wrong, wrong_locks, held_along -/
namespace Tr
open PySem PySem.Spec PyProof.Rows L2 Rw
theorem fits_shaped {n : Nat} {ds : List D} (h : Fits n ds) (hn : n ≤ 40) : SeqAt.shaped (.tuple ds) = true := by
  refine shaped_of ?_ ?_
  · rw [PyData.canLay0]
    exact lays_of ds h.good
  · rw [PyData.depth]
    have := h.dep
    omega
theorem fits_drop {n : Nat} : ∀ {ds : List D} (i : Nat), Fits n ds → Fits n (ds.drop i)
  | _, 0, h => h
  | [], _ + 1, h => h
  | _ :: _, i + 1, h => fits_drop i h.tail
def spWr (K : PySem.W.Frag) : Sp := fun vs H Q _ => ∃ (v ar tk : V) (d : D) (xs : List V) (p : Addr) (later : List D) (around taken : List Str), vs = [v, .ref p, ar, tk] ∧ Dp K H v d ∧ BrOk d ∧ goodD d = true ∧ SqT K H p xs ∧ DpAll K H xs later ∧ SeqAt.shaped (.tuple later) = true ∧
  TxtT K H ar around ∧ TxtT K H tk taken ∧ (∀ n ∈ taken, sOk n) ∧ around.length + taken.length ≤ 1000 ∧ ∀ H', Same H H' → Q (.bl (isWr d later around taken)) H'
section
variable {P : Program} {w : World} {K : PySem.W.Frag} {mg : Str → Option Value} {base : Heap}
abbrev sWr : Stmt := top 30
theorem scWr : FnScope ["item", "later", "around", "taken"] ["item", "later", "around", "taken"] (defScope sWr) := ⟨rfl, rfl, rfl, by decide +kernel, rfl, by decide +kernel, by decide +kernel⟩
theorem ok_wr {f : Addr} {fd : FuncData} (F : Fun K "is_wrong" "is_wrong" sWr f fd) : FnOk P w K mg base CX0 1 f fd ["item", "later", "around", "taken"] (spWr K) := by
  refine F.ok scWr (fun vs H Q E h => ?_) (fun cdv A outer s H vs Q E hr h => ?_)
  · obtain ⟨v, ar, tk, d, xs, p, later, around, taken, rfl, _⟩ := h
    rfl
  · obtain ⟨v, ar, tk, d, xs, pl, later, around, taken, rfl, hd, br, gd, hl, hls, hsh, har, htk, gt, hz, q⟩ := h
    have gn := good_nm gd br
    obtain ⟨wd, r, rfl, b1, b2, b3⟩ := br
    refine ⟨_, (pss_cons (ps_if (pt_cmpR op_eq (pe_ix (ix_tupK (K := K) rfl) (pv 0) pe_int (fun _ _ => rfl)) pe_str (nomark _))
       (pss_one (ps_ret (pe_cmpR (Nm.op_neDK (K := K) rfl hr.units) (pe_slice sl_tupA (pv 3) (po_some (pe_un un_neg pe_int)) po_none) (pe_tup (pa_cons (pe_ix (ix_tupK (K := K) rfl) (pv 0) pe_int (fun _ _ => rfl)) pa_nil)) (nomark _))))
       pss_nil)
       (pss_cons (ps_if (pt_cmpR op_eq (pe_ix (ix_tupK (K := K) rfl) (pv 0) pe_int (fun _ _ => rfl)) pe_str (nomark _))
       (pss_one (ps_ret (pe_or (pe_cmpR (op_in_seqKK (K := K) rfl) (pe_ix (ix_tupK (K := K) rfl) (pv 0) pe_int (fun _ _ => rfl)) (pe_op op_catA (pv 2) (pv 3)) (by rfl)) (pe_one (pe_cmpR (op_notInTD hr.units65) (pe_tup (pa_cons pe_str (pa_cons (pe_ix (ix_tupK (K := K) rfl) (pv 0) pe_int (fun _ _ => rfl)) pa_nil))) (pv 1) (by rfl))))))
       pss_nil)
       (pss_one (ps_ret (pe_and (pe_cmpR op_eq (pe_ix (ix_tupK (K := K) rfl) (pv 0) pe_int (fun _ _ => rfl)) pe_str (nomark _)) (pe_one (pe_cmpR (op_in_seqKK (K := K) rfl) (pe_ix (ix_tupK (K := K) rfl) (pv 0) pe_int (fun _ _ => rfl)) (pe_op op_catA (pv 2) (pv 3)) (by rfl)))))))), ?_⟩
    rw [show wD (.tuple (.str wd :: r)) = wd from rfl] at gn
    cases hd with
    | @tup p xs0 _ hp ha =>
    cases ha with
    | @cons x0 xs0 _ _ h0 ha =>
    cases h0
    refine ⟨_, rfl, p, _, _, _, rfl, rfl, hp, at0, rfl, _, rfl, ?_⟩
    rw [Rw.dec_str]
    unfold isWr at q
    rw [show wD (.tuple (.str wd :: r)) = wd from rfl] at q
    by_cases h1 : wd = "give"
    · rw [decide_eq_true h1]
      rw [if_pos h1] at q
      obtain ⟨n, r', rfl⟩ := b3 (.inr (.inl h1))
      rw [show nmD (.tuple (.str wd :: .str n :: r')) = n from rfl] at q gn
      cases ha with
      | @cons x1 xs2 _ _ h0 ha =>
      cases h0
      refine iteT ?_
      refine ⟨_, rfl, _, rfl, _, rfl, ?_⟩
      dsimp only [tNoPart]
      refine last_txt htk fun H1 u s1 hu => ?_
      refine ⟨_, rfl, p, _, _, _, rfl, rfl, s1.tupS hp, at1, by show 1 ≤ sizeLine; decide, fun y ny => ?_⟩
      have s2 := same_upd (o := HO.tup [V.str n]) ny
      have hy : TxtT K (upd H1 y (.tup [V.str n])) (.ref y) [n] := ⟨y, rfl, SqT.of upd_same⟩
      refine ⟨_, _, (hu.same s2).dp, hy.dp, txtD_shaped fun n hn => gt n (List.mem_of_mem_drop hn), txtD_shaped fun m hn => ?_, ?_⟩
      · rcases List.mem_cons.mp hn with rfl | hn
        · exact gn (.inr (.inl h1))
        · cases hn
      · rw [eqv_txt]
        exact q _ (s1.trans s2)
    · rw [decide_eq_false h1]
      rw [if_neg h1] at q
      refine iteF ?_
      refine ⟨_, rfl, p, _, _, _, rfl, rfl, hp, at0, rfl, _, rfl, ?_⟩
      rw [Rw.dec_str]
      by_cases h2 : wd = "take"
      · rw [decide_eq_true h2]
        rw [if_pos h2] at q
        obtain ⟨n, r', rfl⟩ := b3 (.inl h2)
        rw [show nmD (.tuple (.str wd :: .str n :: r')) = n from rfl] at q gn
        cases ha with
        | @cons x1 xs2 _ _ h0 ha =>
        cases h0
        refine iteT ?_
        refine ⟨_, rfl, p, _, _, _, rfl, rfl, hp, at1, _, rfl, _, rfl, cat_txt har htk hz fun H1 u s1 hu => ?_⟩
        obtain ⟨pu, rfl, hu⟩ := hu
        refine ⟨pu, _, rfl, .inr hu, rfl, flat_txt _, _, rfl, ?_⟩
        rw [if_neg Bool.false_ne_true, inV_txt]
        by_cases h3 : n ∈ around ++ taken
        · rw [decide_eq_true h3]
          rw [if_pos h3] at q
          exact iteT (q _ s1)
        · rw [decide_eq_false h3]
          rw [if_neg h3] at q
          refine iteF ?_
          refine ⟨_, rfl, p, _, _, _, rfl, rfl, s1.tupS hp, at1, by show 2 ≤ sizeLine; decide, fun y ny => ?_⟩
          have s2 := same_upd (o := HO.tup [V.str "give", V.str n]) ny
          have hy : TxtT K (upd H1 y (.tup [V.str "give", V.str n])) (.ref y) ["give", n] := ⟨y, rfl, SqT.of upd_same⟩
          have gok : ∀ m ∈ [("give" : Str), n], sOk m := fun m hm => by
            rcases List.mem_cons.mp hm with rfl | hm
            · exact (by decide +kernel : sOk "give")
            · rcases List.mem_cons.mp hm with rfl | hm
              · exact gn (.inl h2)
              · cases hm
          refine ⟨_, rfl, giveD n, later, hy.dp, .tup ((s1.trans s2).tupS hl) (hls.same (s1.trans s2)), txtD_shaped gok, hsh, ?_⟩
          exact q _ (s1.trans s2)
      · rw [decide_eq_false h2]
        rw [if_neg h2] at q
        refine iteF ?_
        refine ⟨_, rfl, p, _, _, _, rfl, rfl, hp, at0, rfl, _, rfl, ?_⟩
        rw [Rw.dec_str]
        by_cases h3 : wd = "piece"
        · rw [decide_eq_true h3]
          rw [decide_eq_true h3] at q
          obtain ⟨n, r', rfl⟩ := b3 (.inr (.inr h3))
          rw [show nmD (.tuple (.str wd :: .str n :: r')) = n from rfl] at q
          cases ha with
          | @cons x1 xs2 _ _ h0 ha =>
          cases h0
          refine iteT ?_
          refine ⟨_, rfl, p, _, _, _, rfl, rfl, hp, at1, _, rfl, _, rfl, cat_txt har htk hz fun H1 u s1 hu => ?_⟩
          obtain ⟨pu, rfl, hu⟩ := hu
          refine ⟨pu, _, rfl, .inr hu, rfl, flat_txt _, ?_⟩
          rw [if_neg Bool.false_ne_true, inV_txt]
          exact q _ s1
        · rw [decide_eq_false h3]
          rw [decide_eq_false h3] at q
          exact iteF (q H (Same.refl H))
end
def spWLk (K : PySem.W.Frag) (n : Nat) : Sp := fun vs H Q _ => ∃ (p : Addr) (ar : V) (xs : List V) (ds : List D) (around : List Str), vs = [.ref p, ar] ∧ SqT K H p xs ∧ DpAll K H xs ds ∧ Fits n ds ∧ (∀ d ∈ flat ds, BrOk d) ∧ TxtT K H ar around ∧ around.length + (flat ds).length ≤ 900 ∧
  ∀ H' l, Same H H' → H l = none → H' l = some (.lst ((wl ds [] around).map V.bl)) → Q (.ref l) H'
section
variable {P : Program} {w : World} {K : PySem.W.Frag} {mg : Str → Option Value} {base : Heap}
abbrev sWL : Stmt := top 29
theorem scWL : FnScope ["items", "around", "found", "taken", "at", "item", "inner"] ["items", "around"] (defScope sWL) := ⟨rfl, rfl, rfl, by decide +kernel, rfl, by decide +kernel, by decide +kernel⟩
theorem ok_wlk {f fB fL fW : Addr} {fd fdB fdL fdW : FuncData} (F : Fun K "wrong_locks" "wrong_locks" sWL f fd) (TX : Called K mg "wrong_locks" ["items", "around"] f fd) (GB : FnOk P w K mg base CX0 1 fB fdB ["item"] (spBr K)) (TB : Called K mg "branches" ["item"] fB fdB)
    (GL : FnOk P w K mg base CX0 1 fL fdL ["item", "held"] (spBeh K)) (TL : Called K mg "locks_behind" ["item", "held"] fL fdL) (GW : FnOk P w K mg base CX0 1 fW fdW ["item", "later", "around", "taken"] (spWr K)) (TW : Called K mg "is_wrong" ["item", "later", "around", "taken"] fW fdW)
    (m_enumerate : mg "enumerate" = none) : ∀ n, n ≤ 40 → FnOk P w K mg base CX0 (n + 2) f fd ["items", "around"] (spWLk K n) := by
  intro n
  induction n with
  | zero =>
    intro _
    refine F.ok scWL (fun vs H Q E h => ?_) (fun cdv A outer s H vs Q E hr h => ?_)
    · obtain ⟨p, ar, xs, ds, around, rfl, _⟩ := h
      rfl
    · obtain ⟨p, ar, xs, ds, around, rfl, _, _, ft, _⟩ := h
      exact absurd ft.dep (Nat.not_lt_zero _)
  | succ n ih =>
    intro hn
    have GX := ih (by omega)
    refine F.ok scWL (fun vs H Q E h => ?_) (fun cdv A outer s H vs Q E hr h => ?_)
    · obtain ⟨p, ar, xs, ds, around, rfl, _⟩ := h
      rfl
    · obtain ⟨p, ar, xs, ds, around, rfl, hp, ha, ft, br, har, hz, q⟩ := h
      refine ⟨_, (pss_cons (ps_set (i := 2) scWL.nd rfl (.inl rfl) (pe_lst pa_nil))
       (pss_cons (ps_set (i := 3) scWL.nd rfl (.inl rfl) (pe_tup pa_nil))
       (pss_cons (ps_for PassesOwn.never rfl (pi_enumT rfl m_enumerate (pa_cons (pv 0) pa_nil)) (pg_tup rfl (pgs_cons (pg_name (i := 4) scWL.nd rfl (.inl rfl)) (pgs_cons (pg_name (i := 5) scWL.nd rfl (.inl rfl)) pgs_nil)))
       (pss_cons (ps_expr (pe_bm PySem.F.plainAttrs_list PySem.F.slot_list_append PySem.F.type_list_append mt_append (pv 2) (pa_cons (pe_call GW (hr.mono (by first | decide | omega)) rfl TW.1 TW.2.1 TW.2.2 .nil pass0 (pa_cons (pv 5) (pa_cons (pe_slice sl_tupA (pv 0) (po_some (pe_op op_add (pv 4) pe_int)) po_none) (pa_cons (pv 1) (pa_cons (pv 3) pa_nil))))) pa_nil)))
       (pss_cons (ps_set (i := 3) scWL.nd rfl (.inl rfl) (pe_call GL (hr.mono (by first | decide | omega)) rfl TL.1 TL.2.1 TL.2.2 .nil pass0 (pa_cons (pv 5) (pa_cons (pv 3) pa_nil))))
       (pss_one (ps_for PassesOwn.never rfl (pi_tup (pe_call GB (hr.mono (by first | decide | omega)) rfl TB.1 TB.2.1 TB.2.2 .nil pass0 (pa_cons (pv 5) pa_nil))) (pg_name (i := 6) scWL.nd rfl (.inl rfl))
       (pss_one (ps_expr (pe_bm PySem.F.plainAttrs_list PySem.F.slot_list_extend PySem.F.type_list_extend mt_extend (pv 2) (pa_cons (pe_call GX (hr.mono (by first | decide | omega)) rfl TX.1 TX.2.1 TX.2.2 .nil pass0 (pa_cons (pv 6) (pa_cons (pe_op op_catA (pv 1) (pv 3)) pa_nil))) pa_nil)))))))))
       (pss_one (ps_ret (pv 2)))))), ?_⟩
      have len := dpl ha
      have tot := wl_len ds [] around
      have small : ∀ as bs : List Bool, as ++ bs = wl ds [] around → as.length ≤ 900 := fun as bs e => by
        have z := congrArg List.length e
        rw [List.length_append] at z
        omega
      refine ⟨Nat.zero_le _, fun l nl => ?_⟩
      have s1 : Same H (upd H l (.lst [])) := same_upd nl
      refine ⟨Nat.zero_le _, fun t0 nt0 => ?_⟩
      have s2 := same_upd (o := HO.tup []) nt0
      refine ⟨_, rfl, p, _, rfl, (s1.trans s2).tupS hp, for_enumT (K := K) (a := p) (xs := xs)
        (fun i σ H' => ∃ (u : V) (done : List Bool) (t : List Str) (v4 v5 v6 : Option V), σ = [some (.ref p), some ar, some (.ref l), some u, v4, v5, v6] ∧ Same H H' ∧ H' l = some (.lst (done.map V.bl)) ∧ TxtT K H' u t ∧ (∀ n ∈ t, sOk n) ∧
          done ++ wl (ds.drop i) t around = wl ds [] around ∧ t.length + (flat (ds.drop i)).length ≤ (flat ds).length)
        ⟨.ref t0, [], [], none, none, none, rfl, s1.trans s2, s2 _ _ upd_same, ⟨t0, rfl, SqT.of upd_same⟩, fun n hn => (nomatch hn), rfl, Nat.zero_add _ ▸ Nat.le_refl _⟩ ?_ ?_ ?_⟩
      · rintro i σ H' hi ⟨u, _, _, v4, v5, v6, rfl, sm, _⟩
        exact sm.tupS hp
      · rintro i x σ H1 T1 hxi ⟨u, done, t, v4, v5, v6, rfl, sm, ho, hu, tok, e, hl⟩ nT
        obtain ⟨d, hd, hx⟩ := dp_get ha hxi
        have mem : d ∈ ds := List.mem_of_getElem? hd
        have dr := drop_cons hd
        rw [dr, wl] at e
        rw [dr, flat, List.length_cons, List.length_append] at hl
        have fl : flat ds = flat (ds.take i) ++ (d :: (flatk d ++ flat (ds.drop (i + 1)))) := by
          have z := flat_app (ds.take i) (ds.drop i)
          rw [List.take_append_drop, dr, flat] at z
          exact z
        have brd : BrOk d := br d (by rw [fl]; simp)
        have gd := (ft.mem mem).good
        have hi : i < ds.length := (List.getElem?_eq_some_iff.mp hd).1
        have u0 := same_upd (o := .tup [.int (i : Nat), x]) nT
        refine ⟨T1, _, rfl, SqT.of upd_same, rfl, _, _, rfl, _, _, rfl, rfl, ?_⟩
        have sm0 := sm.trans u0
        refine ⟨_, rfl, .inl ⟨rfl, _, SqL.of (u0 _ _ ho)⟩, _, rfl, _, rfl, _, rfl, _, _, rfl, rfl, _, rfl, ?_⟩
        dsimp only [tNoPart]
        refine tail_tup (sm0.tupS hp) (by omega) fun H2 u2 s3 hu2 => ?_
        have sm2 := sm0.trans s3
        refine ⟨_, rfl, _, rfl, x, ar, u, d, _, u2, ds.drop (i + 1), around, t, rfl, hx.same sm2, brd, gd, hu2, (dp_drop (i + 1) ha).same sm2, fits_shaped (fits_drop (i + 1) ft) hn, har.same sm2, hu.same (u0.trans s3), tok, by omega, fun H3 s4 => ?_⟩
        have sm3 := sm2.trans s4
        have ho3 := s4 _ _ (s3 _ _ (u0 _ _ ho))
        have hu3 := hu.same (u0.trans (s3.trans s4))
        have dl := small _ _ e
        refine ⟨l, _, _, rfl, rfl, ho3, by rw [List.length_map, sizeLine_eq]; omega, ?_⟩
        generalize hH4 : upd H3 l _ = H4
        have sm4 : Same H H4 := by
          rw [← hH4]
          exact same_updN nl sm3
        have hu4 : TxtT K H4 u t := by
          rw [← hH4]
          exact hu3.updL ho3
        have ho4 : H4 l = some (.lst ((done ++ [isWr d (ds.drop (i + 1)) around t]).map V.bl)) := by
          rw [← hH4, upd_same, List.map_append]
          rfl
        clear hH4
        have bl := behindD_len d t
        refine ⟨_, rfl, _, rfl, x, u, d, t, rfl, hx.same sm4, brd, hu4, by omega, fun H5 u5 s6 hu5 => ?_⟩
        have bok := behindD_ok tok gd brd
        have sm5 := sm4.trans s6
        refine ⟨_, rfl, H, x, d, rfl, sm5, hx, brd, fun H6 p6 ks s7 ht hk => ?_⟩
        have lk := dpl hk
        rw [List.length_map] at lk
        rw [wlk_kids] at e
        refine ⟨p6, rfl, ⟨_, ht⟩, for_tup (xs := ks) (fun j σ H' => ∃ (dn : List Bool) (v6 : Option V), σ = [some (.ref p), some ar, some (.ref l), some u5, some (.int (i : Nat)), some x, v6] ∧ Same H H' ∧ SqT K H' p6 ks ∧ TxtT K H' u5 (behindD d t) ∧ H' l = some (.lst (dn.map V.bl)) ∧
            dn ++ (((kids d).drop j).flatMap (fun x => wl x [] (around ++ behindD d t)) ++ wl (ds.drop (i + 1)) (behindD d t) around) = wl ds [] around)
          ⟨done ++ [isWr d (ds.drop (i + 1)) around t], v6, rfl, sm5.trans s7, ht, hu5.same s7, s7 _ _ (s6 _ _ ho4), by rw [← e]; simp⟩ ?_ ?_ ?_⟩
        · rintro j σ H' hj ⟨dn, v6, rfl, _, ht, _⟩
          exact ht
        · rintro j k σ H7 hkj ⟨dn, v6, rfl, s8, ht8, hu8, hl8, e8⟩
          obtain ⟨pk, xk, dk, rfl, hdk, hpk, hak⟩ := dp_map_tup hk hkj
          have memk : dk ∈ kids d := List.mem_of_getElem? hdk
          rw [drop_cons hdk, List.flatMap_cons] at e8
          obtain ⟨kl, ks2⟩ := kid_flat memk
          refine ⟨_, rfl, .inl ⟨rfl, _, SqL.of hl8⟩, _, rfl, _, rfl, _, rfl, cat_txt (har.same s8) hu8 (by omega) fun H8 a8 s9 ha8 => ?_⟩
          refine ⟨pk, a8, xk, dk, around ++ behindD d t, rfl, (s8.trans s9).tupS hpk, hak.same (s8.trans s9), kid_fit (ft.mem mem) memk, fun z hz => br z (by rw [fl]; exact List.mem_append_right _ (List.mem_cons_of_mem _ (List.mem_append_left _ (ks2 z hz)))), ha8, by rw [List.length_append]; omega, fun H9 l9 s10 n9 h9 => ?_⟩
          have s89 := s9.trans s10
          refine ⟨l, l9, _, _, rfl, rfl, s89 _ _ hl8, h9, ?_, ?_⟩
          · have z := congrArg List.length e8
            simp only [List.length_append] at z
            rw [List.length_map, List.length_map, sizeLine_eq]
            omega
          refine ⟨dn ++ wl dk [] (around ++ behindD d t), some (.ref pk), rfl, same_updN nl (s8.trans s89), sqT_updL (s89 _ _ hl8) (s89.tupS ht8), (hu8.same s89).updL (s89 _ _ hl8), by rw [upd_same, List.map_append], ?_⟩
          rw [← e8]
          simp
        · rintro σ H7 ⟨dn, v6, rfl, s8, ht8, hu8, hl8, e8⟩
          refine ⟨u5, dn, behindD d t, _, _, _, rfl, s8, hl8, hu8, bok, ?_, by omega⟩
          rw [lk, List.drop_length] at e8
          exact e8
      · rintro σ H1 ⟨u, done, t, v4, v5, v6, rfl, sm, ho, hu, tok, e, hl⟩
        rw [len, List.drop_length, wl, List.append_nil] at e
        rw [e] at ho
        exact ⟨_, rfl, q H1 l sm nl ho⟩
end
def spHl (K : PySem.W.Frag) (n : Nat) : Sp := fun vs H Q _ => ∃ (p : Addr) (hv : V) (xs : List V) (ds : List D) (h0 : List Str), vs = [.ref p, hv] ∧ SqT K H p xs ∧ DpAll K H xs ds ∧ Fits n ds ∧ (∀ d ∈ flat ds, BrOk d) ∧ TxtT K H hv h0 ∧ h0.length + (flat ds).length ≤ 900 ∧
  ∀ H' l ys, Same H H' → H l = none → H' l = some (.lst ys) → All2 (TxtT K H') ys (hl ds h0) → Q (.ref l) H'
section
variable {P : Program} {w : World} {K : PySem.W.Frag} {mg : Str → Option Value} {base : Heap}
abbrev sHl : Stmt := top 32
theorem scHl : FnScope ["items", "around", "found", "held", "item", "inner"] ["items", "around"] (defScope sHl) := ⟨rfl, rfl, rfl, by decide +kernel, rfl, by decide +kernel, by decide +kernel⟩
theorem ok_hl {f fB fL : Addr} {fd fdB fdL : FuncData} (F : Fun K "held_along" "held_along" sHl f fd) (TX : Called K mg "held_along" ["items", "around"] f fd) (GB : FnOk P w K mg base CX0 1 fB fdB ["item"] (spBr K)) (TB : Called K mg "branches" ["item"] fB fdB)
    (GL : FnOk P w K mg base CX0 1 fL fdL ["item", "held"] (spBeh K)) (TL : Called K mg "locks_behind" ["item", "held"] fL fdL) : ∀ n, FnOk P w K mg base CX0 (n + 2) f fd ["items", "around"] (spHl K n) := by
  intro n
  induction n with
  | zero =>
    refine F.ok scHl (fun vs H Q E h => ?_) (fun cdv A outer s H vs Q E hr h => ?_)
    · obtain ⟨p, ar, xs, ds, around, rfl, _⟩ := h
      rfl
    · obtain ⟨p, ar, xs, ds, around, rfl, _, _, ft, _⟩ := h
      exact absurd ft.dep (Nat.not_lt_zero _)
  | succ n GX =>
    refine F.ok scHl (fun vs H Q E h => ?_) (fun cdv A outer s H vs Q E hr h => ?_)
    · obtain ⟨p, ar, xs, ds, around, rfl, _⟩ := h
      rfl
    · obtain ⟨p, hv, xs, ds, h0, rfl, hp, ha, ft, br, hh, hz, q⟩ := h
      refine ⟨_, (pss_cons (ps_set (i := 2) scHl.nd rfl (.inl rfl) (pe_lst pa_nil))
       (pss_cons (ps_set (i := 3) scHl.nd rfl (.inl rfl) (pv 1))
       (pss_cons (ps_for PassesOwn.never rfl (pi_tup (pv 0)) (pg_name (i := 4) scHl.nd rfl (.inl rfl))
       (pss_cons (ps_expr (pe_bm PySem.F.plainAttrs_list PySem.F.slot_list_append PySem.F.type_list_append mt_append (pv 2) (pa_cons (pv 3) pa_nil)))
       (pss_cons (ps_for PassesOwn.never rfl (pi_tup (pe_call GB (hr.mono (by first | decide | omega)) rfl TB.1 TB.2.1 TB.2.2 .nil pass0 (pa_cons (pv 4) pa_nil))) (pg_name (i := 5) scHl.nd rfl (.inl rfl))
       (pss_one (ps_expr (pe_bm PySem.F.plainAttrs_list PySem.F.slot_list_extend PySem.F.type_list_extend mt_extend (pv 2) (pa_cons (pe_call GX (hr.mono (by first | decide | omega)) rfl TX.1 TX.2.1 TX.2.2 .nil pass0 (pa_cons (pv 5) (pa_cons (pv 3) pa_nil))) pa_nil)))))
       (pss_one (ps_set (i := 3) scHl.nd rfl (.inl rfl) (pe_call GL (hr.mono (by first | decide | omega)) rfl TL.1 TL.2.1 TL.2.2 .nil pass0 (pa_cons (pv 4) (pa_cons (pv 3) pa_nil))))))))
       (pss_one (ps_ret (pv 2)))))), ?_⟩
      have len := dpl ha
      have tot := hl_len ds h0
      have small : ∀ as bs : List (List Str), as ++ bs = hl ds h0 → as.length ≤ 900 := fun as bs e => by
        have z := congrArg List.length e
        rw [List.length_append] at z
        omega
      refine ⟨Nat.zero_le _, fun l nl => ?_⟩
      have s1 : Same H (upd H l (.lst [])) := same_upd nl
      refine ⟨_, rfl, _, rfl, p, rfl, ⟨_, s1.tupS hp⟩, for_tup (xs := xs)
        (fun i σ H' => ∃ (ys : List V) (done : List (List Str)) (u : V) (t : List Str) (v4 v5 : Option V), σ = [some (.ref p), some hv, some (.ref l), some u, v4, v5] ∧ Same H H' ∧ H' l = some (.lst ys) ∧ All2 (TxtT K H') ys done ∧ TxtT K H' u t ∧
          done ++ hl (ds.drop i) t = hl ds h0 ∧ t.length + (flat (ds.drop i)).length ≤ h0.length + (flat ds).length)
        ⟨[], [], hv, h0, none, none, rfl, s1, upd_same, .nil, hh.same s1, rfl, Nat.le_refl _⟩ ?_ ?_ ?_⟩
      · rintro i σ H' hi ⟨_, _, u, _, v4, v5, rfl, sm, _⟩
        exact sm.tupS hp
      · rintro i x σ H1 hxi ⟨ys, done, u, t, v4, v5, rfl, sm, ho, hy, hu, e, hl2⟩
        obtain ⟨d, hd, hx⟩ := dp_get ha hxi
        have mem : d ∈ ds := List.mem_of_getElem? hd
        have dr := drop_cons hd
        rw [dr, hl] at e
        rw [dr, flat, List.length_cons, List.length_append] at hl2
        have fl : flat ds = flat (ds.take i) ++ (d :: (flatk d ++ flat (ds.drop (i + 1)))) := by
          have z := flat_app (ds.take i) (ds.drop i)
          rw [List.take_append_drop, dr, flat] at z
          exact z
        have brd : BrOk d := br d (by rw [fl]; simp)
        have yl := hy.length
        have dl := small _ _ e
        refine ⟨_, rfl, .inl ⟨rfl, _, SqL.of ho⟩, _, rfl, l, _, _, rfl, rfl, ho, small1000 (by omega), ?_⟩
        have s2 : Same H (upd H1 l (.lst (ys ++ [u]))) := same_updN nl sm
        have hy2 : All2 (TxtT K (upd H1 l (.lst (ys ++ [u])))) (ys ++ [u]) (done ++ [t]) := (hy.mono fun _ _ z => z.updL ho).append (.cons (hu.updL ho) .nil)
        have hu2 := hu.updL (u := .lst (ys ++ [u])) ho
        have ho2 : (upd H1 l (.lst (ys ++ [u]))) l = some (.lst (ys ++ [u])) := upd_same
        generalize upd H1 l (.lst (ys ++ [u])) = H2 at s2 hy2 hu2 ho2
        refine ⟨_, rfl, H, x, d, rfl, s2, hx, brd, fun H3 p3 ks s3 ht hk => ?_⟩
        have lk := dpl hk
        rw [List.length_map] at lk
        rw [hlk_kids] at e
        refine ⟨p3, rfl, ⟨_, ht⟩, for_tup (xs := ks) (fun j σ H' => ∃ (zs : List V) (dn : List (List Str)) (v5 : Option V), σ = [some (.ref p), some hv, some (.ref l), some u, some x, v5] ∧ Same H H' ∧ SqT K H' p3 ks ∧ TxtT K H' u t ∧ H' l = some (.lst zs) ∧ All2 (TxtT K H') zs dn ∧
            dn ++ (((kids d).drop j).flatMap (fun x => hl x t) ++ hl (ds.drop (i + 1)) (behindD d t)) = hl ds h0)
          ⟨ys ++ [u], done ++ [t], v5, rfl, s2.trans s3, ht, hu2.same s3, s3 _ _ ho2, hy2.mono fun _ _ z => z.same s3, by rw [← e]; simp⟩ ?_ ?_ ?_⟩
        · rintro j σ H' hj ⟨_, dn, v6, rfl, _, ht, _⟩
          exact ht
        · rintro j k σ H7 hkj ⟨zs, dn, v6, rfl, s8, ht8, hu8, hl8, hz8, e8⟩
          obtain ⟨pk, xk, dk, rfl, hdk, hpk, hak⟩ := dp_map_tup hk hkj
          have memk : dk ∈ kids d := List.mem_of_getElem? hdk
          rw [drop_cons hdk, List.flatMap_cons] at e8
          obtain ⟨kl, ks2⟩ := kid_flat memk
          refine ⟨_, rfl, .inl ⟨rfl, _, SqL.of hl8⟩, _, rfl, _, rfl, pk, u, xk, dk, t, rfl, s8.tupS hpk, hak.same s8, kid_fit (ft.mem mem) memk, fun z hz => br z (by rw [fl]; exact List.mem_append_right _ (List.mem_cons_of_mem _ (List.mem_append_left _ (ks2 z hz)))), hu8, by omega, fun H9 l9 ws s9 n9 h9 hw => ?_⟩
          have zl := hz8.length
          have wln := hw.length
          refine ⟨l, l9, _, _, rfl, rfl, s9 _ _ hl8, h9, ?_, ?_⟩
          · have z := congrArg List.length e8
            simp only [List.length_append] at z
            rw [sizeLine_eq]
            omega
          refine ⟨zs ++ ws, dn ++ hl dk t, some (.ref pk), rfl, same_updN nl (s8.trans s9), sqT_updL (s9 _ _ hl8) (s9.tupS ht8), (hu8.same s9).updL (s9 _ _ hl8), upd_same, ?_, ?_⟩
          · exact ((hz8.mono fun _ _ z => (z.same s9).updL (s9 _ _ hl8)).append (hw.mono fun _ _ z => z.updL (s9 _ _ hl8)))
          · rw [← e8]
            simp
        · rintro σ H7 ⟨zs, dn, v6, rfl, s8, ht8, hu8, hl8, hz8, e8⟩
          rw [lk, List.drop_length] at e8
          have bl := behindD_len d t
          refine ⟨_, rfl, _, rfl, x, u, d, t, rfl, hx.same s8, brd, hu8, by omega, fun H9 u9 s9 hu9 => ?_⟩
          refine ⟨zs, dn, u9, behindD d t, _, _, rfl, s8.trans s9, s9 _ _ hl8, hz8.mono fun _ _ z => z.same s9, hu9, e8, by omega⟩
      · rintro σ H1 ⟨ys, done, u, t, v4, v5, rfl, sm, ho, hy, hu, e, hl2⟩
        rw [len, List.drop_length, hl, List.append_nil] at e
        rw [e] at hy
        exact ⟨_, rfl, q H1 l ys sm nl ho hy⟩
end
end Tr

/-! P6 -/
/-! ### check_each, check_body, is_body, is_item -/
namespace Tr
open PySem PySem.Spec PyProof.Rows L2 Rw
/-- what Body says of a value: none, or where its first fault lies -/
def faultL (ds : List D) : Option V :=
  if ds.isEmpty then some .non else
    match (misl ds 0).findIdx? id with
    | some i => some (.int (i : Nat))
    | none => if 8 < (flat ds).length then some .non else
      match (wl ds [] []).findIdx? id with
      | some i => some (.int (i : Nat))
      | none => none
def faultB : D → Option V
  | .tuple ds => faultL ds
  | _ => some .non
theorem find_none {bs : List Bool} (h : bs.findIdx? id = none) : bs.contains true = false := by
  rw [List.findIdx?_eq_none_iff] at h
  cases hc : bs.contains true with
  | false => rfl
  | true =>
    have z := h true (List.contains_iff_mem.mp hc)
    cases z
def spEach (K : PySem.W.Frag) (CI : Addr) : Sp := fun vs H Q E => ∃ (l : Addr) (bs : List Bool), vs = [.ref l] ∧ SqL K H l (bs.map V.bl) ∧ (bs.findIdx? id = none → ∀ H', Same H H' → Q .non H') ∧ (∀ i : Nat, bs.findIdx? id = some i → ∀ t H', Left H "place" (.int (i : Nat)) t H' → E (.ref CI) (some t) H')
def spCB (K : PySem.W.Frag) (CI : Addr) (n : Nat) : Sp := fun vs H Q E => ∃ (v : V) (d : D), vs = [v] ∧ Dp K H v d ∧ FitD n d ∧ (faultB d = none → ∀ H', Same H H' → Q .non H') ∧ (∀ r, faultB d = some r → ∀ t H', Left H "place" r t H' → E (.ref CI) (some t) H')
def spIB (K : PySem.W.Frag) (n : Nat) : Sp := fun vs H Q _ => ∃ (v : V) (d : D), vs = [v] ∧ Dp K H v d ∧ FitD n d ∧ ∀ H', Same H H' → Q (.bl (faultB d).isNone) H'
section
variable {P : Program} {w : World} {K : PySem.W.Frag} {mg : Str → Option Value} {base : Heap}
abbrev sII : Stmt := inClass (top 2) 0
theorem scII : FnScope ["self", "place"] ["self", "place"] (defScope sII) := ⟨rfl, rfl, rfl, by decide +kernel, rfl, by decide +kernel, by decide +kernel⟩
theorem ok_II {f : Addr} {fd : FuncData} (F : Fun K "__init__" "InvalidItem.__init__" sII f fd) : FnOk P w K mg base CX0 1 f fd ["self", "place"] (spR1 K "place") := by
  refine F.ok scII (fun vs H Q E h => ?_) (fun cdv A outer s H vs Q E hr h => ?_)
  · obtain ⟨a, C, fI, v, rfl, _⟩ := h
    rfl
  · obtain ⟨a, C, fI, v, rfl, T, hn, ea, q⟩ := h
    refine ⟨_, pss_one (ps_ostG (pv 0) (pv 1)), ?_⟩
    refine ⟨_, rfl, _, rfl, a, C, fI, rfl, T, hn, .inl ⟨ea, fun dx n ne => ?_⟩⟩
    refine q _ dx (fun b o hb e => ?_) upd_same (by rw [upd_ne ne, upd_same]) n ne
    rw [upd_ne hb, upd_ne (ne_of_none e n)]
    exact e
theorem er_II {x : Str} {C f : Addr} {fd : FuncData} (F : Fun K "__init__" "InvalidItem.__init__" sII f fd) (g : mg x = some (.ref C)) (o : OexG K C f) (no : PySem.W.findIn K (.ref C) "place" = some none) : Er P w K mg base x "place" C f fd :=
  ⟨g, o, no, ok_II F, F.binds (ps := ["self", "place"]) fun _ _ _ _ _ _ us hl => match us, hl with | [_, _], _ => rfl⟩
abbrev sEach : Stmt := top 19
theorem scEach : FnScope ["faults", "place", "wrong"] ["faults"] (defScope sEach) := ⟨rfl, rfl, rfl, by decide +kernel, rfl, by decide +kernel, by decide +kernel⟩
theorem ok_each {f CI fI : Addr} {fd fdI : FuncData} (F : Fun K "check_each" "check_each" sEach f fd) (T : Er P w K mg base "InvalidItem" "place" CI fI fdI) (m_enumerate : mg "enumerate" = none) : FnOk P w K mg base (L2.CX P w) 3 f fd ["faults"] (spEach K CI) := by
  refine F.okX scEach (fun vs H Q E h => ?_) (fun cdv A outer s H vs Q E hr h => ?_)
  · obtain ⟨l, bs, rfl, _⟩ := h
    rfl
  · obtain ⟨l, bs, rfl, hl, q, qE⟩ := h
    refine ⟨_, (pss_one (ps_for (passes_of rfl) rfl (pi_enum (by rfl) m_enumerate (pa_cons (pv 0) pa_nil)) (pg_tup rfl (pgs_cons (pg_name (i := 1) scEach.nd rfl (.inl rfl)) (pgs_cons (pg_name (i := 2) scEach.nd rfl (.inl rfl)) pgs_nil)))
       (pss_one (ps_if (pt_val (pv 2))
       (pss_one (ps_raise rfl (takes_of rfl rfl rfl rfl) (pmk_G T.o T.F (hr.mono (by first | decide | omega)) T.b pass0 rfl T.g (pa_cons (pv 1) pa_nil))))
       pss_nil)))), ?_⟩
    refine ⟨_, rfl, l, _, rfl, hl, for_enum (K := K) (a := l) (xs := bs.map V.bl)
      (fun i σ H' => ∃ v1 v2 : Option V, σ = [some (.ref l), v1, v2] ∧ Same H H' ∧ ∀ j, j < i → bs[j]? = some false)
      ⟨none, none, rfl, Same.refl _, fun j hj => absurd hj (Nat.not_lt_zero j)⟩ (fun i σ H' _ ⟨_, _, _, s5, _⟩ => s5.seq hl) ?_ ?_⟩
    · rintro i x σ H4 T4 hxi ⟨w1, w3, rfl, s5, al2⟩ nT4
      obtain ⟨b, hb, rfl⟩ : ∃ b, bs[i]? = some b ∧ x = V.bl b := by
        rw [List.getElem?_map] at hxi
        cases e : bs[i]? with
        | none => rw [e] at hxi; cases hxi
        | some z => rw [e] at hxi; exact ⟨z, rfl, (Option.some.inj hxi).symm⟩
      have u4 := same_upd (o := .tup [.int (i : Nat), .bl b]) nT4
      refine ⟨T4, _, rfl, .inl (.inl upd_same), rfl, _, _, rfl, _, _, rfl, rfl, ?_⟩
      refine ⟨_, rfl, _, rfl, ?_⟩
      cases b with
      | true =>
        refine iteT ⟨_, rfl, Nat.le_of_ble_eq_true rfl, fun e ne => raise1 T.o T.no ne fun t H' l => qE i ?_ t H' (l.before (s5.trans u4))⟩
        rw [List.findIdx?_eq_some_iff_getElem]
        obtain ⟨hi, he⟩ := List.getElem?_eq_some_iff.mp hb
        refine ⟨hi, by rw [he]; rfl, fun j hj => ?_⟩
        obtain ⟨hj2, he2⟩ := List.getElem?_eq_some_iff.mp (al2 j hj)
        rw [he2]
        exact Bool.false_ne_true
      | false =>
        refine iteF ⟨_, _, rfl, s5.trans u4, fun j hj => ?_⟩
        by_cases e : j = i
        · rw [e]; exact hb
        · exact al2 j (by omega)
    · rintro σ H4 ⟨w1, w3, rfl, s5, al2⟩
      refine q ?_ _ s5
      rw [List.findIdx?_eq_none_iff]
      intro x hx
      obtain ⟨j, hj⟩ := List.getElem?_of_mem hx
      have hj2 : j < (bs.map V.bl).length := by
        rw [List.length_map]
        exact (List.getElem?_eq_some_iff.mp hj).1
      have z := al2 j hj2
      rw [hj] at z
      exact Option.some.inj z
abbrev sCB : Stmt := top 18
theorem scCB : FnScope ["value"] ["value"] (defScope sCB) := ⟨rfl, rfl, rfl, by decide +kernel, rfl, by decide +kernel, by decide +kernel⟩
theorem ok_cb {f fM fF fW fE CI fI : Addr} {fd fdM fdF fdW fdE fdI : FuncData} (F : Fun K "check_body" "check_body" sCB f fd) (n : Nat) (hn : n ≤ 40) (T : Er P w K mg base "InvalidItem" "place" CI fI fdI)
    (GM : FnOk P w K mg base CX0 (2 * n + 4) fM fdM ["items", "around"] (spMis K n)) (TM : Called K mg "misshapen" ["items", "around"] fM fdM) (GF : FnOk P w K mg base CX0 (n + 2) fF fdF ["items"] (spFlat K n)) (TF : Called K mg "flat" ["items"] fF fdF)
    (GW : FnOk P w K mg base CX0 (n + 2) fW fdW ["items", "around"] (spWLk K n)) (TW : Called K mg "wrong_locks" ["items", "around"] fW fdW) (GE : FnOk P w K mg base (L2.CX P w) 3 fE fdE ["faults"] (spEach K CI)) (TE : Called K mg "check_each" ["faults"] fE fdE)
    (m_isinstance : mg "isinstance" = none) (m_tuple : mg "tuple" = none) (m_len : mg "len" = none) {tM : Tok} (mM : mg "MOST_ITEMS" = some (.int 8 tM)) : FnOk P w K mg base (L2.CX P w) (2 * n + 5) f fd ["value"] (spCB K CI (n + 1)) := by
  refine F.okX scCB (fun vs H Q E h => ?_) (fun cdv A outer s H vs Q E hr h => ?_)
  · obtain ⟨v, d, rfl, _⟩ := h
    rfl
  · obtain ⟨v, d, rfl, hd, ft, q, qE⟩ := h
    refine ⟨_, (pss_cons (ps_if (PW.pt (pw_or (pt_not (pt_val (pe_callB (call_isiKK (K := K) rfl) (by rfl) m_isinstance (by decide +kernel) (pa_cons (pv 0) (pa_cons (pe_bltn (v := .ty "tuple") (by rfl) m_tuple (by decide +kernel) rfl) pa_nil))))) (pw_or1 (pt_cmpR op_eq (pe_callB (call_len_K (K := K) rfl) (by rfl) m_len PySem.boot_len (pa_cons (pv 0) pa_nil)) pe_int (nomark _)))))
       (pss_one (ps_raise rfl (takes_of rfl rfl rfl rfl) (pmk_G T.o T.F (hr.mono (by first | decide | omega)) T.b pass0 rfl T.g (pa_cons pe_non pa_nil))))
       pss_nil)
       (pss_cons (ps_expr (pe_call GE (hr.mono (by first | decide | omega)) rfl TE.1 TE.2.1 TE.2.2 .nil passX (pa_cons (pe_call GM (hr.mono (by first | decide | omega)) rfl TM.1 TM.2.1 TM.2.2 .nil pass0 (pa_cons (pv 0) (pa_cons pe_int pa_nil))) pa_nil)))
       (pss_cons (ps_if (pt_cmpR op_gt (pe_callB (call_len_K (K := K) rfl) (by rfl) m_len PySem.boot_len (pa_cons (pe_call GF (hr.mono (by first | decide | omega)) rfl TF.1 TF.2.1 TF.2.2 .nil pass0 (pa_cons (pv 0) pa_nil)) pa_nil)) (pe_glob (v := .int 8) rfl mM ⟨_, rfl⟩) (nomark _))
       (pss_one (ps_raise rfl (takes_of rfl rfl rfl rfl) (pmk_G T.o T.F (hr.mono (by first | decide | omega)) T.b pass0 rfl T.g (pa_cons pe_non pa_nil))))
       pss_nil)
       (pss_one (ps_expr (pe_call GE (hr.mono (by first | decide | omega)) rfl TE.1 TE.2.1 TE.2.2 .nil passX (pa_cons (pe_call GW (hr.mono (by first | decide | omega)) rfl TW.1 TW.2.1 TW.2.2 .nil pass0 (pa_cons (pv 0) (pa_cons (pe_tup pa_nil) pa_nil))) pa_nil))))))), ?_⟩
    refine ⟨_, rfl, _, _, _, _, _, rfl, .ty _, dp_ty hd, kit_tup d, _, rfl, ?_⟩
    cases htp : isTup d with
    | false =>
      have e : faultB d = some .non := by
        cases d with
        | tuple _ => cases htp
        | _ => rfl
      exact iteT (iteT ⟨Nat.le_of_ble_eq_true rfl, fun x ne => raise1 T.o T.no ne fun t H' l => qE _ e t H' l⟩)
    | true =>
      refine iteF ?_
      obtain ⟨ds, rfl⟩ := tup_of htp
      cases hd with
      | @tup p xs _ hp ha =>
      have len := dpl ha
      rw [show faultB (.tuple ds) = faultL ds from rfl] at q qE
      unfold faultL at q qE
      refine ⟨_, rfl, p, _, rfl, .inr hp, rfl, _, rfl, ?_⟩
      rw [len, int_dec 0 0 rfl]
      by_cases e0 : ds.length = 0
      · rw [decide_eq_true e0]
        rw [List.eq_nil_of_length_eq_zero e0] at qE
        exact iteT ⟨Nat.le_of_ble_eq_true rfl, fun x ne => raise1 T.o T.no ne fun t H' l => qE _ rfl t H' l⟩
      · rw [decide_eq_false e0]
        have e1 : ¬ (ds.isEmpty = true) := by
          cases ds with
          | nil => exact absurd rfl e0
          | cons _ _ => exact Bool.false_ne_true
        rw [if_neg e1] at q qE
        refine iteF ?_
        refine ⟨_, rfl, p, xs, ds, 0, rfl, hp, ha, ft.inside, fun H1 l s1 nl hl => ?_⟩
        refine ⟨l, _, rfl, SqL.of hl, fun hf H2 s2 => ?_, fun i hi t H' lf => qE _ (by rw [hi]) t H' (lf.before s1)⟩
        rw [hf] at q qE
        have hc := find_none hf
        have s12 := s1.trans s2
        refine ⟨_, rfl, H, p, xs, ds, rfl, s12, s12.tupS hp, ha, ft.inside, fun e he => (br_flat hc e he).1, fun H3 l3 ys s3 n3 h3 hy => ?_⟩
        have ly := dpl hy
        have s13 := s12.trans s3
        refine ⟨l3, _, rfl, .inl (SqL.of h3), _, _, rfl, rfl, _, rfl, ?_⟩
        by_cases h8 : 8 < (flat ds).length
        · rw [decide_eq_true (by omega)]
          refine iteT ⟨Nat.le_of_ble_eq_true rfl, fun x ne => raise1 T.o T.no ne fun t H' l => qE .non (by rw [if_pos h8]) t H' (l.before s13)⟩
        · rw [decide_eq_false (by omega)]
          rw [if_neg h8] at q qE
          refine iteF ?_
          refine ⟨_, rfl, Nat.zero_le _, fun z nz => ?_⟩
          have s4 := s13.trans (same_upd (o := HO.tup []) nz)
          refine ⟨p, .ref z, xs, ds, [], rfl, s4.tupS hp, ha.same s4, ft.inside, fun e he => (br_flat hc e he).1, ⟨z, rfl, SqT.of upd_same⟩, by rw [List.length_nil]; omega, fun H5 l5 s5 n5 h5 => ?_⟩
          have s45 := s4.trans s5
          refine ⟨l5, _, rfl, SqL.of h5, fun hf2 H6 s6 => ?_, fun i hi t H' lf => qE _ (by rw [hi]) t H' (lf.before s45)⟩
          exact q (by rw [hf2]) H6 (s45.trans s6)
abbrev sIB : Stmt := top 16
theorem scIB : FnScope ["value"] ["value"] (defScope sIB) := ⟨rfl, rfl, rfl, by decide +kernel, rfl, by decide +kernel, by decide +kernel⟩
theorem ok_ib {f fC CI fI : Addr} {fd fdC fdI : FuncData} (F : Fun K "is_body" "is_body" sIB f fd) (n : Nat) (T : Er P w K mg base "InvalidItem" "place" CI fI fdI) (te : PySem.W.exmOne K (.ref CI) (.ref CI) = some true)
    (GC : FnOk P w K mg base (L2.CX P w) (2 * n + 5) fC fdC ["value"] (spCB K CI (n + 1))) (TC : Called K mg "check_body" ["value"] fC fdC) : FnOk P w K mg base CX0 (2 * n + 6) f fd ["value"] (spIB K (n + 1)) := by
  refine F.ok scIB (fun vs H Q E h => ?_) (fun cdv A outer s H vs Q E hr h => ?_)
  · obtain ⟨v, d, rfl, _⟩ := h
    rfl
  · obtain ⟨v, d, rfl, hd, ft, q⟩ := h
    refine ⟨_, pss_cons (ps_try_only rfl rfl ⟨rfl, by decide, .inl T.g⟩ takes0
      (fun W pn xe tk _ => pss_one (ps_expr (pe_callS GC (hr.mono (by first | decide | omega)) rfl TC.1 TC.2.1 TC.2.2 (fun σ => passAt tk σ) (pa_cons (pv 0) pa_nil))))
      (fun a oe cls dd pn hz hf => pss_one (ps_ret pe_bl))) (pss_one (ps_ret pe_bl)), ?_⟩
    refine ⟨_, rfl, v, d, rfl, hd, ft, fun hf H1 s1 => ?_, fun r hr t H1 lf => ⟨true, te, fun _ _ _ => ?_, fun z => nomatch z⟩⟩
    · have z := q H1 s1
      rw [hf] at z
      exact z
    · have z := q H1 lf.1
      rw [hr] at z
      exact z
end
end Tr

/-! P7 -/
/-! ### ways_along, ways_of -/
namespace Tr
open PySem PySem.Spec PyProof.Rows L2 Rw
def WayT (K : PySem.W.Frag) (H : Hp) (v : V) (ns : List Nat) : Prop := ∃ p, v = .ref p ∧ SqT K H p (ns.map fun (n : Nat) => V.int (n : Int))
theorem WayT.same {K : PySem.W.Frag} {H H' : Hp} (s : Same H H') {v : V} {ns : List Nat} (h : WayT K H v ns) : WayT K H' v ns := let ⟨p, e, q⟩ := h; ⟨p, e, s.tupS q⟩
theorem WayT.updL {K : PySem.W.Frag} {H : Hp} {l : Addr} {xs : List V} {u : HO} (hl : H l = some (.lst xs)) {v : V} {ns : List Nat} (h : WayT K H v ns) : WayT K (upd H l u) v ns := let ⟨p, e, q⟩ := h; ⟨p, e, sqT_updL hl q⟩
def spWA (K : PySem.W.Frag) (n : Nat) : Sp := fun vs H Q _ => ∃ (p : Addr) (xs : List V) (ds : List D) (s b : Nat), vs = [.ref p, .int (s : Nat), .int (b : Nat)] ∧ SqT K H p xs ∧ DpAll K H xs ds ∧ Fits n ds ∧ (∀ d ∈ flat ds, BrOk d) ∧ (flat ds).length ≤ 900 ∧
  ∀ H' l ys, Same H H' → H l = none → H' l = some (.lst ys) → All2 (WayT K H') ys (wa ds s b) → Q (.ref l) H'
def spWO (K : PySem.W.Frag) (n : Nat) : Sp := fun vs H Q _ => ∃ (v : V) (d : D) (s f : Nat), vs = [v, .int (s : Nat), .int (f : Nat)] ∧ Dp K H v d ∧ FitD n d ∧ BrOk d ∧ (∀ e ∈ flatk d, BrOk e) ∧ (flatk d).length < 900 ∧
  ∀ H' l ys, Same H H' → H l = none → H' l = some (.lst ys) → All2 (WayT K H') ys (wo d s f) → Q (.ref l) H'
theorem fit_one {n : Nat} {d : D} (h : FitD n d) : Fits n [d] := ⟨by rw [goodAll, goodAll, h.good]; rfl, by rw [PyData.depthAll, PyData.depthAll]; have := h.dep; omega, by rw [cntAll, cntAll]; exact h.cnt⟩
theorem cons_mem_app {α : Type} {e d : α} {as bs : List α} (h : e ∈ d :: as) : e ∈ d :: (as ++ bs) := by
  rcases List.mem_cons.mp h with rfl | h
  · exact List.mem_cons_self
  · exact List.mem_cons_of_mem _ (List.mem_append_left _ h)
section
variable {P : Program} {w : World} {K : PySem.W.Frag} {mg : Str → Option Value} {base : Heap}
abbrev sWA : Stmt := top 36
theorem scWA : FnScope ["items", "start", "behind", "found", "at", "item", "place", "follows"] ["items", "start", "behind"] (defScope sWA) := ⟨rfl, rfl, rfl, by decide +kernel, rfl, by decide +kernel, by decide +kernel⟩
theorem ok_wa {f fF fO : Addr} {fd fdF fdO : FuncData} (F : Fun K "ways_along" "ways_along" sWA f fd) (TF : Called K mg "flat" ["items"] fF fdF) (TO : Called K mg "ways_of" ["item", "place", "follows"] fO fdO) (n : Nat)
    (GF : FnOk P w K mg base CX0 (n + 2) fF fdF ["items"] (spFlat K n)) (GO : FnOk P w K mg base CX0 (2 * n + 3) fO fdO ["item", "place", "follows"] (spWO K n)) (m_enumerate : mg "enumerate" = none) (m_len : mg "len" = none) : FnOk P w K mg base CX0 (2 * n + 4) f fd ["items", "start", "behind"] (spWA K n) := by
  refine F.ok scWA (fun vs H Q E h => ?_) (fun cdv A outer s H vs Q E hr h => ?_)
  · obtain ⟨p, xs, ds, s, b, rfl, _⟩ := h
    rfl
  · obtain ⟨p, xs, ds, s, b, rfl, hp, ha, ft, br, hz, q⟩ := h
    refine ⟨_, (pss_cons (ps_set (i := 3) scWA.nd rfl (.inl rfl) (pe_lst pa_nil))
       (pss_cons (ps_for PassesOwn.never rfl (pi_enumT rfl m_enumerate (pa_cons (pv 0) pa_nil)) (pg_tup rfl (pgs_cons (pg_name (i := 4) scWA.nd rfl (.inl rfl)) (pgs_cons (pg_name (i := 5) scWA.nd rfl (.inl rfl)) pgs_nil)))
       (pss_cons (ps_set (i := 6) scWA.nd rfl (.inl rfl) (pe_op op_add (pv 1) (pe_callB (call_len_K (K := K) rfl) (by rfl) m_len PySem.boot_len (pa_cons (pv 3) pa_nil))))
       (pss_cons (ps_set (i := 7) scWA.nd rfl (.inl rfl) (pe_ifExp (pt_cmpR op_eq (pe_op op_add (pv 4) pe_int) (pe_callB (call_len_K (K := K) rfl) (by rfl) m_len PySem.boot_len (pa_cons (pv 0) pa_nil)) (nomark _))
       (pv 2)
       (pe_op op_add (pv 6) (pe_callB (call_len_K (K := K) rfl) (by rfl) m_len PySem.boot_len (pa_cons (pe_call GF (hr.mono (by first | decide | omega)) rfl TF.1 TF.2.1 TF.2.2 .nil pass0 (pa_cons (pe_tup (pa_cons (pv 5) pa_nil)) pa_nil)) pa_nil)))))
       (pss_one (ps_expr (pe_bm PySem.F.plainAttrs_list PySem.F.slot_list_extend PySem.F.type_list_extend mt_extend (pv 3) (pa_cons (pe_call GO (hr.mono (by first | decide | omega)) rfl TO.1 TO.2.1 TO.2.2 .nil pass0 (pa_cons (pv 5) (pa_cons (pv 6) (pa_cons (pv 7) pa_nil)))) pa_nil)))))))
       (pss_one (ps_ret (pv 3))))), ?_⟩
    have len := dpl ha
    have tot := wa_len ds s b
    have small : ∀ as bs : List (List Nat), as ++ bs = wa ds s b → as.length ≤ 900 := fun as bs e => by
      have z := congrArg List.length e
      rw [List.length_append] at z
      omega
    refine ⟨Nat.zero_le _, fun l nl => ?_⟩
    have s1 : Same H (upd H l (.lst [])) := same_upd nl
    refine ⟨_, rfl, p, _, rfl, s1.tupS hp, for_enumT (K := K) (a := p) (xs := xs)
      (fun i σ H' => ∃ (ys : List V) (done : List (List Nat)) (v4 v5 v6 v7 : Option V), σ = [some (.ref p), some (.int (s : Nat)), some (.int (b : Nat)), some (.ref l), v4, v5, v6, v7] ∧ Same H H' ∧ H' l = some (.lst ys) ∧ All2 (WayT K H') ys done ∧
        done ++ wa (ds.drop i) (s + done.length) b = wa ds s b)
      ⟨[], [], none, none, none, none, rfl, s1, upd_same, .nil, rfl⟩ ?_ ?_ ?_⟩
    · rintro i σ H' hi ⟨_, _, v4, v5, v6, v7, rfl, sm, _⟩
      exact sm.tupS hp
    · rintro i x σ H1 T1 hxi ⟨ys, done, v4, v5, v6, v7, rfl, sm, ho, hy, e⟩ nT
      obtain ⟨d, hd, hx⟩ := dp_get ha hxi
      have mem : d ∈ ds := List.mem_of_getElem? hd
      have hi : i < ds.length := (List.getElem?_eq_some_iff.mp hd).1
      rw [drop_cons hd, wa] at e
      have fl : flat ds = flat (ds.take i) ++ (d :: (flatk d ++ flat (ds.drop (i + 1)))) := by
        have z := flat_app (ds.take i) (ds.drop i)
        rw [List.take_append_drop, drop_cons hd, flat] at z
        exact z
      have brd : BrOk d := br d (by rw [fl]; simp)
      have lf : (flatk d).length < 900 := by
        have z := congrArg List.length fl
        simp only [List.length_append, List.length_cons] at z
        omega
      have yl := hy.length
      have u0 := same_upd (o := .tup [.int (i : Nat), x]) nT
      have sm0 := sm.trans u0
      refine ⟨T1, _, rfl, SqT.of upd_same, rfl, _, _, rfl, _, _, rfl, rfl, ?_⟩
      refine ⟨_, rfl, _, rfl, l, _, rfl, .inl (SqL.of (u0 _ _ ho)), _, _, rfl, rfl, ?_⟩
      have ep : ((s : Nat) : Int) + ((ys.length : Nat) : Int) = ((s + done.length : Nat) : Int) := by omega
      refine name_in ?_
      dsimp only
      rw [ep]
      have lw := wo_len d (s + done.length) (if (ds.drop (i + 1)).isEmpty then b else s + done.length + (flat [d]).length)
      refine seqS_in (asg_via (fun v H2 => v = .int (((if (ds.drop (i + 1)).isEmpty then b else s + done.length + (flat [d]).length) : Nat) : Int) ∧ Same (upd H1 T1 (.tup [.int (i : Nat), x])) H2) (fun Qx hQ => ?_) (fun v H2 ⟨ev, s3⟩ => ?_))
      · refine ⟨_, rfl, _, _, rfl, rfl, _, rfl, p, _, rfl, .inr (sm0.tupS hp), rfl, _, rfl, ?_⟩
        rw [len]
        by_cases hlast : i + 1 = ds.length
        · rw [decide_eq_true (by rw [← hlast]; rfl)]
          refine iteT ⟨_, rfl, hQ _ _ ⟨?_, Same.refl _⟩⟩
          rw [if_pos (by rw [List.isEmpty_iff, hlast, List.drop_length])]
        · rw [decide_eq_false (fun e => hlast (by have := V.int.inj e; omega))]
          refine iteF ?_
          refine ⟨_, rfl, _, rfl, by show 1 ≤ sizeLine; decide, fun y ny => ?_⟩
          have s4 := same_upd (o := HO.tup [x]) ny
          refine ⟨H, y, [x], [d], rfl, sm0.trans s4, SqT.of upd_same, .cons hx .nil, fit_one (ft.mem mem), fun e he => br e (by rw [fl]; exact List.mem_append_right _ (by rw [flat_one] at he; exact cons_mem_app he)), fun H5 l5 ys5 s5 n5 h5 hy5 => ?_⟩
          have ly5 := dpl hy5
          refine ⟨l5, _, rfl, .inl (SqL.of h5), _, _, rfl, rfl, hQ _ _ ⟨?_, s4.trans s5⟩⟩
          rw [if_neg (by rw [List.isEmpty_iff, List.drop_eq_nil_iff]; omega), ly5]
          congr 1
      · subst ev
        refine name_in ?_
        have s13 := sm0.trans s3
        refine ⟨_, rfl, .inl ⟨rfl, _, SqL.of (s3 _ _ (u0 _ _ ho))⟩, _, rfl, _, rfl, _, rfl, x, d, s + done.length, _, rfl, hx.same s13, ft.mem mem, brd, fun e he => br e (by rw [fl]; exact List.mem_append_right _ (List.mem_cons_of_mem _ (List.mem_append_left _ he))), lf, fun H5 l5 ws s5 n5 h5 hw => ?_⟩
        have s135 := u0.trans (s3.trans s5)
        have wl5 := hw.length
        have d9 := small (done ++ wo d (s + done.length) (if (ds.drop (i + 1)).isEmpty then b else s + done.length + (flat [d]).length)) _ (by rw [List.append_assoc]; exact e)
        rw [List.length_append] at d9
        refine ⟨l, l5, _, _, rfl, rfl, s135 _ _ ho, h5, by rw [sizeLine_eq]; omega, ?_⟩
        refine ⟨ys ++ ws, done ++ wo d (s + done.length) (if (ds.drop (i + 1)).isEmpty then b else s + done.length + (flat [d]).length), _, _, _, _, rfl, same_updN nl (sm.trans s135), upd_same, ?_, ?_⟩
        · exact ((hy.mono fun _ _ z => (z.same s135).updL (s135 _ _ ho)).append (hw.mono fun _ _ z => z.updL (s135 _ _ ho)))
        · rw [List.append_assoc, List.length_append, lw, ← Nat.add_assoc]
          exact e
    · rintro σ H1 ⟨ys, done, v4, v5, v6, v7, rfl, sm, ho, hy, e⟩
      rw [len, List.drop_length, wa, List.append_nil] at e
      rw [e] at hy
      exact ⟨_, rfl, q H1 l ys sm nl ho hy⟩
abbrev sWO : Stmt := top 37
theorem scWO : FnScope ["item", "place", "follows", "inner", "first", "second", "middle", "own"] ["item", "place", "follows"] (defScope sWO) := ⟨rfl, rfl, rfl, by decide +kernel, rfl, by decide +kernel, by decide +kernel⟩
theorem ok_wo {f fF fB fA : Addr} {fd fdF fdB fdA : FuncData} (F : Fun K "ways_of" "ways_of" sWO f fd) (TF : Called K mg "flat" ["items"] fF fdF) (TB : Called K mg "branches" ["item"] fB fdB) (TA : Called K mg "ways_along" ["items", "start", "behind"] fA fdA) (n : Nat)
    (GF : FnOk P w K mg base CX0 (n + 2) fF fdF ["items"] (spFlat K n)) (GB : FnOk P w K mg base CX0 1 fB fdB ["item"] (spBr K)) (GA : FnOk P w K mg base CX0 (2 * n + 4) fA fdA ["items", "start", "behind"] (spWA K n)) (m_len : mg "len" = none) : FnOk P w K mg base CX0 (2 * n + 5) f fd ["item", "place", "follows"] (spWO K (n + 1)) := by
  refine F.ok scWO (fun vs H Q E h => ?_) (fun cdv A outer s H vs Q E hr h => ?_)
  · obtain ⟨v, d, s, b, rfl, _⟩ := h
    rfl
  · obtain ⟨v, d, s, b, rfl, hd, ft, brd, brk, hz, q⟩ := h
    refine ⟨_, (pss_cons (ps_set (i := 3) scWO.nd rfl (.inl rfl) (pe_call GB (hr.mono (by first | decide | omega)) rfl TB.1 TB.2.1 TB.2.2 .nil pass0 (pa_cons (pv 0) pa_nil)))
       (pss_cons (ps_if (pt_cmpR op_eq (pe_callB (call_len_K (K := K) rfl) (by rfl) m_len PySem.boot_len (pa_cons (pv 3) pa_nil)) pe_int (nomark _))
       (pss_one (ps_ret (pe_lst (pa_cons (pe_tup (pa_cons (pv 2) pa_nil)) pa_nil))))
       pss_nil)
       (pss_cons (ps_asg (pv 3) (pg_tup rfl (pgs_cons (pg_name (i := 4) scWO.nd rfl (.inl rfl)) (pgs_cons (pg_name (i := 5) scWO.nd rfl (.inl rfl)) pgs_nil))))
       (pss_cons (ps_set (i := 6) scWO.nd rfl (.inl rfl) (pe_op op_add (pe_op op_add (pv 1) pe_int) (pe_callB (call_len_K (K := K) rfl) (by rfl) m_len PySem.boot_len (pa_cons (pe_call GF (hr.mono (by first | decide | omega)) rfl TF.1 TF.2.1 TF.2.2 .nil pass0 (pa_cons (pv 4) pa_nil)) pa_nil))))
       (pss_cons (ps_set (i := 7) scWO.nd rfl (.inl rfl) (pe_tup (pa_cons (pe_ifExp (pt_cmpR op_gt (pe_callB (call_len_K (K := K) rfl) (by rfl) m_len PySem.boot_len (pa_cons (pv 4) pa_nil)) pe_int (nomark _))
       (pe_op op_add (pv 1) pe_int)
       (pv 2)) (pa_cons (pe_ifExp (pt_cmpR op_gt (pe_callB (call_len_K (K := K) rfl) (by rfl) m_len PySem.boot_len (pa_cons (pv 5) pa_nil)) pe_int (nomark _))
       (pv 6)
       (pv 2)) pa_nil))))
       (pss_one (ps_ret (pe_op op_cat (pe_op op_cat (pe_lst (pa_cons (pv 7) pa_nil)) (pe_call GA (hr.mono (by first | decide | omega)) rfl TA.1 TA.2.1 TA.2.2 .nil pass0 (pa_cons (pv 4) (pa_cons (pe_op op_add (pv 1) pe_int) (pa_cons (pv 2) pa_nil))))) (pe_call GA (hr.mono (by first | decide | omega)) rfl TA.1 TA.2.1 TA.2.2 .nil pass0 (pa_cons (pv 5) (pa_cons (pv 6) (pa_cons (pv 2) pa_nil)))))))))))), ?_⟩
    refine ⟨_, rfl, H, v, d, rfl, Same.refl H, hd, brd, fun H1 t ks s1 ht hk => ?_⟩
    have lk := dpl hk
    rw [List.length_map] at lk
    refine ⟨_, rfl, t, _, rfl, .inr ht, rfl, _, rfl, ?_⟩
    rw [lk, int_dec 0 0 rfl]
    cases hf : forkOf d with
    | none =>
      have ek : kids d = [] := by unfold kids; rw [hf]
      rw [ek]
      rw [(fork2_none hf).2.2] at q
      refine iteT ?_
      refine ⟨_, rfl, by show 1 ≤ sizeLine; decide, fun y ny => ⟨by show 1 ≤ sizeLine; decide, fun l nl => ?_⟩⟩
      have s2 := same_upd (o := HO.tup [V.int (b : Nat)]) ny
      have s3 := same_upd (o := HO.lst [V.ref y]) nl
      have s12 := s1.trans s2
      exact q _ l _ (s12.trans s3) (s12.free nl) upd_same (.cons ⟨y, rfl, SqT.of (s3 _ _ upd_same)⟩ .nil)
    | some xy =>
      obtain ⟨x, y⟩ := xy
      have ek : kids d = [x, y] := by unfold kids; rw [hf]
      rw [ek] at hk ⊢
      rw [(fork2_some hf).2.2] at q
      have mx : x ∈ kids d := by rw [ek]; exact List.mem_cons_self
      have my : y ∈ kids d := by rw [ek]; exact List.mem_cons_of_mem _ List.mem_cons_self
      have bk : ∀ z ∈ kids d, ∀ e ∈ flat z, BrOk e := fun z hz e he => brk e ((kid_flat hz).2 e he)
      have lx := (kid_flat mx).1
      have ly := (kid_flat my).1
      cases hk with
      | @cons k1 ks _ _ h1 hk =>
      cases hk with
      | @cons k2 ks _ _ h2 hk =>
      cases hk
      cases h1 with
      | @tup p1 xs1 _ hp1 ha1 =>
      cases h2 with
      | @tup p2 xs2 _ hp2 ha2 =>
      have l1 := dpl ha1
      have l2 := dpl ha2
      refine iteF ?_
      refine ⟨_, rfl, t, _, rfl, ht, rfl, _, _, rfl, _, _, rfl, rfl, ?_⟩
      refine ⟨_, rfl, _, _, rfl, rfl, ?_⟩
      refine ⟨_, rfl, H, p1, xs1, x, rfl, s1, s1.tupS hp1, ha1, kid_fit ft mx, bk x mx, fun H2 l2' ys2 s2 n2 h2' hy2 => ?_⟩
      have ly2 := dpl hy2
      refine ⟨l2', _, rfl, .inl (SqL.of h2'), _, _, rfl, rfl, ?_⟩
      refine name_in ?_
      dsimp only
      have em : ((s : Nat) : Int) + 1 + ((ys2.length : Nat) : Int) = ((s + 1 + (flat x).length : Nat) : Int) := by omega
      have s12 := s1.trans s2
      rw [em]
      have gt : ∀ k : Nat, decide ((0 : Int) < (k : Nat)) = decide (0 < k) := fun k => by
        by_cases h : 0 < k
        · rw [decide_eq_true h, decide_eq_true (by omega)]
        · rw [decide_eq_false h, decide_eq_false (by omega)]
      have emp : ∀ z : List D, z.isEmpty = !decide (0 < z.length) := fun z => by cases z <;> simp
      rw [emp x, emp y] at q
      refine seqS_in (asg_via (fun v H3 => Same H2 H3 ∧ WayT K H3 v [if (!decide (0 < x.length)) = true then b else s + 1, if (!decide (0 < y.length)) = true then b else s + 1 + (flat x).length]) (fun Qx hQ => ?_) (fun v H3 ⟨s3, hw⟩ => ?_))
      · refine ⟨_, rfl, p1, _, rfl, .inr (s12.tupS hp1), _, _, rfl, rfl, _, rfl, ?_⟩
        rw [l1, gt]
        have s2' := s1.trans s2
        have fin : ∀ (a1 a2 : Nat), a1 = (if (!decide (0 < x.length)) = true then b else s + 1) → a2 = (if (!decide (0 < y.length)) = true then b else s + 1 + (flat x).length) → ∀ o, H2 o = none → Qx (.ref o) (upd H2 o (.tup [.int (a1 : Nat), .int (a2 : Nat)])) := fun a1 a2 e1 e2 o no => hQ _ _ ⟨same_upd no, o, rfl, by rw [← e1, ← e2]; exact SqT.of upd_same⟩
        cases hx0 : decide (0 < x.length) with
        | false =>
          rw [hx0] at fin
          refine iteF ⟨_, rfl, ?_⟩
          refine ⟨_, rfl, p2, _, rfl, .inr (s12.tupS hp2), _, _, rfl, rfl, _, rfl, ?_⟩
          rw [l2, gt]
          cases hy0 : decide (0 < y.length) with
          | false =>
            rw [hy0] at fin
            exact iteF ⟨_, rfl, by show 2 ≤ sizeLine; decide, fin b b rfl rfl⟩
          | true =>
            rw [hy0] at fin
            exact iteT ⟨_, rfl, by show 2 ≤ sizeLine; decide, fin b (s + 1 + (flat x).length) rfl rfl⟩
        | true =>
          rw [hx0] at fin
          refine iteT ⟨_, rfl, _, _, rfl, rfl, ?_⟩
          refine ⟨_, rfl, p2, _, rfl, .inr (s12.tupS hp2), _, _, rfl, rfl, _, rfl, ?_⟩
          rw [l2, gt]
          cases hy0 : decide (0 < y.length) with
          | false =>
            rw [hy0] at fin
            exact iteF ⟨_, rfl, by show 2 ≤ sizeLine; decide, fin (s + 1) b rfl rfl⟩
          | true =>
            rw [hy0] at fin
            exact iteT ⟨_, rfl, by show 2 ≤ sizeLine; decide, fin (s + 1) (s + 1 + (flat x).length) rfl rfl⟩
      · refine name_in ?_
        have s123 := s12.trans s3
        refine ⟨_, rfl, by show 1 ≤ sizeLine; decide, fun l4 n4 => ?_⟩
        have s4 := same_upd (o := HO.lst [v]) n4
        have e4 : (upd H3 l4 (.lst [v])) l4 = some (.lst [v]) := upd_same
        have hw4 := hw.same s4
        generalize upd H3 l4 (.lst [v]) = H4 at s4 e4 hw4
        have s14 := s123.trans s4
        refine ⟨_, rfl, _, rfl, _, _, rfl, rfl, _, rfl, p1, xs1, x, s + 1, b, rfl, s14.tupS hp1, ha1.same s14, kid_fit ft mx, bk x mx, by omega, fun H5 l5 ys5 s5 n5 h5 hy5 => ?_⟩
        have w5 := hy5.length
        rw [wa_len] at w5
        refine ⟨l4, l5, _, _, rfl, rfl, s5 _ _ e4, h5, by rw [sizeLine_eq, w5]; show 1 + _ ≤ _; omega, fun l6 n6 => ?_⟩
        have s6 := same_upd (o := HO.lst ([v] ++ ys5)) n6
        have e6 : (upd H5 l6 (.lst ([v] ++ ys5))) l6 = some (.lst ([v] ++ ys5)) := upd_same
        generalize upd H5 l6 (.lst ([v] ++ ys5)) = H6 at s6 e6
        have s16 := s14.trans (s5.trans s6)
        refine ⟨_, rfl, _, rfl, _, rfl, p2, xs2, y, s + 1 + (flat x).length, b, rfl, s16.tupS hp2, ha2.same s16, kid_fit ft my, bk y my, by omega, fun H7 l7 ys7 s7 n7 h7 hy7 => ?_⟩
        have w7 := hy7.length
        rw [wa_len] at w7
        refine ⟨l6, l7, _, _, rfl, rfl, s7 _ _ e6, h7, ?_, fun l8 n8 => ?_⟩
        · rw [sizeLine_eq, List.length_append, w5, w7]
          show 1 + _ + _ ≤ _
          omega
        have s8 := same_upd (o := HO.lst ([v] ++ ys5 ++ ys7)) n8
        have s17 := s16.trans s7
        refine q _ l8 _ (s17.trans s8) (s17.free n8) upd_same ?_
        exact ((All2.cons (hw4.same ((s5.trans s6).trans (s7.trans s8))) .nil).append (hy5.mono fun _ _ z => z.same (s6.trans (s7.trans s8)))).append (hy7.mono fun _ _ z => z.same s8)
end
end Tr

/-! P8 -/
/-! ### the heap without the pool; things written out -/
namespace Tr
open PySem PySem.Spec PyProof.Rows L2 Rw
/-- the heap without o -/
def wh (o : Addr) (H : Hp) : Hp := fun a => if a = o then none else H a
theorem wh_sub {o : Addr} {H : Hp} : Same (wh o H) H := fun a x h => by
  unfold wh at h
  split at h
  · cases h
  · exact h
theorem wh_same {o : Addr} {H H' : Hp} (s : Same H H') : Same (wh o H) (wh o H') := fun a x h => by
  unfold wh at h ⊢
  split at h
  · cases h
  · next e => rw [if_neg e]; exact s a x h
theorem wh_but {o : Addr} {H H' : Hp} (b : SameBut o H H') : Same (wh o H) (wh o H') := fun a x h => by
  unfold wh at h ⊢
  split at h
  · cases h
  · next e => rw [if_neg e]; exact b a x e h
theorem wh_at {o l : Addr} {H : Hp} {x : HO} (n : l ≠ o) (h : H l = some x) : wh o H l = some x := by
  unfold wh
  rw [if_neg n]
  exact h
theorem wh_ne {o l : Addr} {H : Hp} {x : HO} (h : wh o H l = some x) : l ≠ o := fun e => by
  unfold wh at h
  rw [if_pos e] at h
  cases h
theorem pool_ne {o q l : Addr} {H : Hp} (p : PoolAt H o q) (nl : H l = none) : l ≠ o := by
  obtain ⟨a, ns, h1, _⟩ := p
  intro e
  rw [e, h1] at nl
  cases nl
theorem wh_new {o q l : Addr} {H : Hp} {x : HO} (p : PoolAt H o q) (nl : H l = none) : wh o (upd H l x) l = some x := wh_at (pool_ne p nl) upd_same
theorem wh_upd {o l : Addr} {H : Hp} {x : HO} (nl : H l = none) : Same (wh o H) (wh o (upd H l x)) := wh_same (same_upd nl)
theorem pool_upd {o q l : Addr} {H : Hp} {x : HO} (p : PoolAt H o q) (nl : H l = none) : PoolAt (upd H l x) o q := p.same (same_upd nl)
/-! a thing written out -/
section
variable {X : Cx} {e : Expr} {es : List Expr} {pos : Pos} {J : L2.St → Hp → Prop} {K : PySem.W.Frag} {d : D} {ds : List D}
def tLit (J : L2.St → Hp → Prop) (K : PySem.W.Frag) (d : D) : TE := fun σ H Q => J σ H ∧ ∀ H' v, Same H H' → Dp K H' v d → Q v H'
def tLits (J : L2.St → Hp → Prop) (K : PySem.W.Frag) (ds : List D) : TA := fun σ H Q => J σ H ∧ ∀ H' vs, Same H H' → DpAll K H' vs ds → Q vs H'
def tLitL (J : L2.St → Hp → Prop) (K : PySem.W.Frag) (ds : List D) : TE := fun σ H Q => J σ H ∧ ∀ H' l vs, Same H H' → H l = none → H' l = some (.lst vs) → DpAll K H' vs ds → Q (.ref l) H'
structure Stay (J : L2.St → Hp → Prop) : Prop where
  up : ∀ σ H H', J σ H → Same H H' → J σ H'
theorem pe_way {t t' : TE} (h : PE X e t) (m : ∀ σ H Q, t' σ H Q → t σ H Q) : PE X e t' := ⟨fun pins s σ H Q I q => h.run pins s σ H Q I (m σ H Q q)⟩
theorem pa_way {t t' : TA} (h : PA X es t) (m : ∀ σ H Q, t' σ H Q → t σ H Q) : PA X es t' := ⟨fun pos pins s σ H Q I q => h.run pos pins s σ H Q I (m σ H Q q)⟩
theorem pl_int {i : Int} {j pos} : PE X (.Constant (.int i) j pos) (tLit J K (.int i)) := pe_way pe_int fun σ H Q h => h.2 H _ (Same.refl H) (.int i)
theorem pl_bl {b : Bool} {j pos} : PE X (.Constant (.bool b) j pos) (tLit J K (.bool b)) := pe_way pe_bl fun σ H Q h => h.2 H _ (Same.refl H) (.bl b)
theorem pl_non {j pos} : PE X (.Constant .none j pos) (tLit J K .none) := pe_way pe_non fun σ H Q h => h.2 H _ (Same.refl H) .non
theorem pl_str {x : Str} {j pos} : PE X (.Constant (.str x) j pos) (tLit J K (.str x)) := pe_way pe_str fun σ H Q h => h.2 H _ (Same.refl H) (.str x)
theorem pl_nil : PA X [] (tLits J K []) := pa_way pa_nil fun σ H Q h => h.2 H [] (Same.refl H) .nil
theorem pl_cons (S : Stay J) (ha : PE X e (tLit J K d)) (hr : PA X es (tLits J K ds)) (hs : starEach (e :: es) X.env = (false, eval e X.env) :: starEach es X.env := by rfl) : PA X (e :: es) (tLits J K (d :: ds)) :=
  pa_way (pa_cons ha hr hs) fun σ H Q h => ⟨h.1, fun H1 v s1 h1 => ⟨S.up _ _ _ h.1 s1, fun H2 vs s2 h2 => h.2 H2 (v :: vs) (s1.trans s2) (.cons (h1.same s2) h2)⟩⟩
theorem pl_tup {x1} (h : PA X es (tLits J K ds)) (z : ds.length ≤ 1000 := by decide) : PE X (.Tuple es x1 pos) (tLit J K (.tuple ds)) :=
  pe_way (pe_tup h) fun σ H Q q => ⟨q.1, fun H1 vs s1 h1 => ⟨by rw [dpl h1, sizeLine_eq]; omega, fun p np => q.2 _ _ (s1.trans (same_upd np)) (.tup (SqT.of upd_same) (h1.same (same_upd np)))⟩⟩
theorem pl_lst (h : PA X es (tLits J K ds)) (z : ds.length ≤ 1000 := by decide) : PE X (.List es pos) (tLit J K (.list ds)) :=
  pe_way (pe_lst h) fun σ H Q q => ⟨q.1, fun H1 vs s1 h1 => ⟨by rw [dpl h1, sizeLine_eq]; omega, fun p np => q.2 _ _ (s1.trans (same_upd np)) (.lst (SqL.of upd_same) (h1.same (same_upd np)))⟩⟩
theorem pl_list (h : PA X es (tLits J K ds)) (z : ds.length ≤ 1000 := by decide) : PE X (.List es pos) (tLitL J K ds) :=
  pe_way (pe_lst h) fun σ H Q q => ⟨q.1, fun H1 vs s1 h1 => ⟨by rw [dpl h1, sizeLine_eq]; omega, fun p np => q.2 _ p vs (s1.trans (same_upd np)) (s1.free np) upd_same (h1.same (same_upd np))⟩⟩
end
end Tr

/-! P9 -/
/-! ### the law's tuples, size -/
namespace Tr
open PySem PySem.Spec PyProof.Rows L2 Rw
def spTu (K : PySem.W.Frag) : Sp := fun vs H Q _ => ∃ (H0 : Hp) (v : V) (d : D), vs = [v] ∧ Same H0 H ∧ Dp K H0 v d ∧ BrOk d ∧ ∀ H' l ys, Same H H' → H l = none → H' l = some (.lst ys) → DpAll K H0 ys ((kids d).map PyData.tuple) → Q (.ref l) H'
def spSz (K : PySem.W.Frag) (n : Nat) : Sp := fun vs H Q _ => ∃ (H0 : Hp) (p : Addr) (xs : List V) (ds : List D), vs = [.ref p] ∧ Same H0 H ∧ SqT K H p xs ∧ DpAll K H0 xs ds ∧ Fits n ds ∧ (∀ d ∈ flat ds, BrOk d) ∧ ∀ H', Same H H' → Q (.int ((flat ds).length : Nat)) H'
def spSzL (K : PySem.W.Frag) (n : Nat) : Sp := fun vs H Q _ => ∃ (H0 : Hp) (p : Addr) (xs : List V) (ds : List D), vs = [.ref p] ∧ Same H0 H ∧ SqL K H p xs ∧ DpAll K H0 xs ds ∧ Fits n ds ∧ (∀ d ∈ flat ds, BrOk d) ∧ ∀ H', Same H H' → Q (.int ((flat ds).length : Nat)) H'
section
variable {P : Program} {w : World} {K : PySem.W.Frag} {mg : Str → Option Value} {base : Heap}
abbrev sTu : Stmt := top 44
theorem scTu : FnScope ["_law_item"] ["_law_item"] (defScope sTu) := ⟨rfl, rfl, rfl, by decide +kernel, rfl, by decide +kernel, by decide +kernel⟩
theorem ok_tu {f : Addr} {fd : FuncData} (F : Fun K "_law_tuples" "_law_tuples" sTu f fd) : FnOk P w K mg base CX0 1 f fd ["_law_item"] (spTu K) := by
  refine F.ok scTu (fun vs H Q E h => ?_) (fun cdv A outer s H vs Q E hr h => ?_)
  · obtain ⟨H0, v, d, rfl, _⟩ := h
    rfl
  · obtain ⟨H0, v, d, rfl, s0, hd, ⟨wd, r, rfl, b1, b2, b3⟩, q⟩ := h
    refine ⟨_, (pss_cons (ps_if (pt_cmpR op_eq (pe_ix (ix_tupK (K := K) rfl) (pv 0) pe_int (fun _ _ => rfl)) pe_str (nomark _))
       (pss_one (ps_ret (pe_lst (pa_cons (pe_ix (ix_tupK (K := K) rfl) (pv 0) pe_int (fun _ _ => rfl)) (pa_cons (pe_ix (ix_tupK (K := K) rfl) (pv 0) pe_int (fun _ _ => rfl)) pa_nil)))))
       pss_nil)
       (pss_one (ps_ret (pe_ifExp (pt_cmpR op_eq (pe_ix (ix_tupK (K := K) rfl) (pv 0) pe_int (fun _ _ => rfl)) pe_str (nomark _))
       (pe_lst (pa_cons (pe_ix (ix_tupK (K := K) rfl) (pv 0) pe_int (fun _ _ => rfl)) (pa_cons (pe_ix (ix_tupK (K := K) rfl) (pv 0) pe_int (fun _ _ => rfl)) pa_nil)))
       (pe_lst pa_nil))))), ?_⟩
    cases hd with
    | @tup p xs _ hp ha =>
      cases ha with
      | @cons x0 xs _ _ h0 ha =>
        cases h0
        have hp1 := s0.tupS hp
        refine ⟨_, rfl, p, _, _, _, rfl, rfl, hp1, at0, rfl, _, rfl, ?_⟩
        rw [Rw.dec_str]
        by_cases e1 : wd = "test"
        · rw [decide_eq_true e1]
          subst e1
          obtain ⟨n, x, y, rfl⟩ := b1 rfl
          cases ha with
          | cons hn ha =>
          cases ha with
          | cons hx ha =>
          cases ha with
          | cons hy ha =>
          cases ha
          refine iteT ?_
          refine ⟨_, rfl, p, _, _, _, rfl, rfl, hp1, at2, _, rfl, p, _, _, _, rfl, rfl, hp1, at3, by show 2 ≤ sizeLine; decide, fun l nl => ?_⟩
          exact q _ l _ (same_upd nl) nl upd_same (by rw [kids_test]; exact .cons hx (.cons hy .nil))
        · rw [decide_eq_false e1]
          refine iteF ?_
          refine ⟨_, rfl, p, _, _, _, rfl, rfl, hp1, at0, rfl, _, rfl, ?_⟩
          rw [Rw.dec_str]
          by_cases e2 : wd = "choose"
          · rw [decide_eq_true e2]
            subst e2
            obtain ⟨x, y, rfl⟩ := b2 rfl
            cases ha with
            | cons hx ha =>
            cases ha with
            | cons hy ha =>
            cases ha
            refine iteT ?_
            refine ⟨_, rfl, p, _, _, _, rfl, rfl, hp1, at1, _, rfl, p, _, _, _, rfl, rfl, hp1, at2, by show 2 ≤ sizeLine; decide, fun l nl => ?_⟩
            exact q _ l _ (same_upd nl) nl upd_same (by rw [kids_choose]; exact .cons hx (.cons hy .nil))
          · rw [decide_eq_false e2]
            refine iteF ?_
            refine ⟨Nat.zero_le _, fun l nl => q _ l [] (same_upd nl) nl upd_same ?_⟩
            rw [kids_none e1 e2]
            exact .nil
abbrev sSz : Stmt := top 45
theorem scSz : FnScope ["_law_items", "_law_total", "_law_item", "_law_some_here"] ["_law_items"] (defScope sSz) := ⟨rfl, rfl, rfl, by decide +kernel, rfl, by decide +kernel, by decide +kernel⟩
theorem sum_len : ∀ (dss : List (List D)), (dss.map fun x => (((flat x).length : Nat) : Int)).sum = (((dss.flatMap flat).length : Nat) : Int)
  | [] => rfl
  | d :: dss => by
    rw [List.map_cons, List.sum_cons, sum_len dss, List.flatMap_cons, List.length_append]
    omega
/-- what stands in the loop's turn, for both ways to walk -/
theorem ok_sz {f fT : Addr} {fd fdT : FuncData} (F : Fun K "_law_size" "_law_size" sSz f fd) (TZ : Called K mg "_law_size" ["_law_items"] f fd) (GT : FnOk P w K mg base CX0 1 fT fdT ["_law_item"] (spTu K)) (TT : Called K mg "_law_tuples" ["_law_item"] fT fdT) (m_sum : mg "sum" = none) : ∀ n, FnOk P w K mg base CX0 (n + 2) f fd ["_law_items"] (spSz K n) ∧ FnOk P w K mg base CX0 (n + 2) f fd ["_law_items"] (spSzL K n) := by
  intro n
  induction n with
  | zero =>
    constructor
    · refine F.ok scSz (fun vs H Q E h => ?_) (fun cdv A outer s H vs Q E hr h => ?_)
      · obtain ⟨H0, p, xs, ds, rfl, _⟩ := h
        rfl
      · obtain ⟨H0, p, xs, ds, rfl, _, _, _, ft, _⟩ := h
        exact absurd ft.dep (Nat.not_lt_zero _)
    · refine F.ok scSz (fun vs H Q E h => ?_) (fun cdv A outer s H vs Q E hr h => ?_)
      · obtain ⟨H0, p, xs, ds, rfl, _⟩ := h
        rfl
      · obtain ⟨H0, p, xs, ds, rfl, _, _, _, ft, _⟩ := h
        exact absurd ft.dep (Nat.not_lt_zero _)
  | succ n ih =>
    have GZ := ih.1
    constructor
    · refine F.ok scSz (fun vs H Q E h => ?_) (fun cdv A outer s H vs Q E hr h => ?_)
      · obtain ⟨H0, p, xs, ds, rfl, _⟩ := h
        rfl
      · obtain ⟨H0, p, xs, ds, rfl, s0, hp, ha, ft, br, q⟩ := h
        refine ⟨_, (pss_cons (ps_set (i := 1) scSz.nd rfl (.inl rfl) pe_int)
       (pss_cons (ps_for PassesOwn.never rfl (pi_tup (pv 0)) (pg_name (i := 2) scSz.nd rfl (.inl rfl))
       (pss_one (ps_set (i := 1) scSz.nd rfl (.inl rfl) (pe_op op_add (pe_op op_add (pv 1) pe_int) (pe_callB (cr_sum rfl) (by rfl) m_sum (by decide +kernel) (pa_cons (pe_lc (own := [("_law_some_here", 3)]) (g := gName 3) (tt := tYes) (by rfl) scSz.nd (pi_list (pe_call GT (hr.mono (by first | decide | omega)) rfl TT.1 TT.2.1 TT.2.2 .nil pass0 (pa_cons (pv 2) pa_nil))) (blkOk_by (own := [("_law_some_here", 3)]) (N := ["_law_items", "_law_total", "_law_item", "_law_some_here"]) (sc := defScope sSz) (by decide +kernel)) (fun _ _ _ _ _ => (pg_name (i := 3) scSz.nd rfl (Or.inl rfl))) (fun _ _ _ _ _ => pts_nil) (fun _ _ _ _ _ => (pe_call GZ (hr.mono (by first | decide | omega)) rfl TZ.1 TZ.2.1 TZ.2.2 .nil pass0 (pa_cons (pv 3) pa_nil)))) pa_nil))))))
       (pss_one (ps_ret (pv 1))))), ?_⟩
        have len := dpl ha
        refine ⟨_, rfl, p, rfl, ⟨_, hp⟩, for_tup (xs := xs)
          (fun i σ H' => ∃ (v2 v3 : Option V), σ = [some (.ref p), some (.int ((flat (ds.take i)).length : Nat)), v2, v3] ∧ Same H H')
          ⟨none, none, by rw [List.take_zero, flat]; rfl, Same.refl H⟩ ?_ ?_ ?_⟩
        · rintro i σ H' hi ⟨v2, v3, rfl, sm⟩
          exact sm.tupS hp
        · rintro i x σ H1 hxi ⟨v2, v3, rfl, s1⟩
          obtain ⟨d, hd, hx⟩ := dp_get ha hxi
          have mem : d ∈ ds := List.mem_of_getElem? hd
          have tk := take_snoc hd
          have fl1 : flat (ds.take (i + 1)) = flat (ds.take i) ++ (d :: flatk d) := by rw [tk, flat_app, flat_one]
          have sub : ∀ e ∈ flat (ds.take (i + 1)), e ∈ flat ds := fun e he => by
            rw [← List.take_append_drop (i + 1) ds, flat_app]
            exact List.mem_append_left _ he
          have brd : BrOk d := br d (sub d (by rw [fl1]; exact List.mem_append_right _ List.mem_cons_self))
          refine ⟨_, rfl, _, _, rfl, rfl, ?_⟩
          refine ⟨_, rfl, H0, x, d, rfl, s0.trans s1, hx, brd, fun H2 l ks s2 nl hl hk => ?_⟩
          have lk := dpl hk
          rw [List.length_map] at lk
          refine ⟨l, rfl, ⟨_, SqL.of hl⟩, fun L nL => lc_list (K := K) (a := l) (xs := ks) (fun j H' => Same H2 H' ∧ H' L = some (.lst (((kids d).take j).map fun x => V.int (((flat x).length : Nat) : Int)))) ⟨same_upd nL, upd_same⟩ (fun j H' _ h => h.1.seq (SqL.of hl)) ?_ ?_⟩
          · rintro j k H3 hkj ⟨s3, e3⟩
            obtain ⟨pk, xk, dk, rfl, hdk, hpk, hak⟩ := dp_map_tup hk hkj
            have memk : dk ∈ kids d := List.mem_of_getElem? hdk
            refine ⟨rfl, ?_⟩
            dsimp only [tYes]
            rw [if_pos rfl]
            refine ⟨_, rfl, H0, pk, xk, dk, rfl, (s0.trans s1).trans (s2.trans s3), ((s0.trans s1).trans (s2.trans s3)).tupS hpk, hak, kid_fit (ft.mem mem) memk, fun e he => br e (sub e (by rw [fl1]; exact List.mem_append_right _ (List.mem_cons_of_mem _ (by rw [flatk_kids]; exact List.mem_flatMap.mpr ⟨dk, memk, he⟩)))), fun H4 s4 => ?_⟩
            refine ⟨_, s4 _ _ e3, ?_, same_updN nL (s3.trans s4), ?_⟩
            · have := kids_len d
              rw [List.length_map, List.length_take, sizeLine_eq]
              omega
            · rw [upd_same, take_snoc hdk, List.map_append]
              rfl
          · rintro H3 ⟨s3, e3⟩
            rw [lk, List.take_length] at e3
            refine ⟨L, (kids d).map fun x => (((flat x).length : Nat) : Int), rfl, SqL.of (by rw [e3, List.map_map]; rfl), _, _, rfl, rfl, ?_⟩
            refine ⟨some x, v3, ?_, s1.trans (s2.trans s3)⟩
            rw [sum_len, ← flatk_kids, fl1, List.length_append, List.length_cons]
            have e9 : (((flat (ds.take i)).length : Nat) : Int) + 1 + (((flatk d).length : Nat) : Int) = (((flat (ds.take i)).length + ((flatk d).length + 1) : Nat) : Int) := by omega
            dsimp only
            rw [e9]
            rfl
        · rintro σ H1 ⟨v2, v3, rfl, s1⟩
          rw [len, List.take_length]
          exact ⟨_, rfl, q H1 s1⟩
    · refine F.ok scSz (fun vs H Q E h => ?_) (fun cdv A outer s H vs Q E hr h => ?_)
      · obtain ⟨H0, p, xs, ds, rfl, _⟩ := h
        rfl
      · obtain ⟨H0, p, xs, ds, rfl, s0, hp, ha, ft, br, q⟩ := h
        refine ⟨_, (pss_cons (ps_set (i := 1) scSz.nd rfl (.inl rfl) pe_int)
       (pss_cons (ps_for PassesOwn.never rfl (pi_list (pv 0)) (pg_name (i := 2) scSz.nd rfl (.inl rfl))
       (pss_one (ps_set (i := 1) scSz.nd rfl (.inl rfl) (pe_op op_add (pe_op op_add (pv 1) pe_int) (pe_callB (cr_sum rfl) (by rfl) m_sum (by decide +kernel) (pa_cons (pe_lc (own := [("_law_some_here", 3)]) (g := gName 3) (tt := tYes) (by rfl) scSz.nd (pi_list (pe_call GT (hr.mono (by first | decide | omega)) rfl TT.1 TT.2.1 TT.2.2 .nil pass0 (pa_cons (pv 2) pa_nil))) (blkOk_by (own := [("_law_some_here", 3)]) (N := ["_law_items", "_law_total", "_law_item", "_law_some_here"]) (sc := defScope sSz) (by decide +kernel)) (fun _ _ _ _ _ => (pg_name (i := 3) scSz.nd rfl (Or.inl rfl))) (fun _ _ _ _ _ => pts_nil) (fun _ _ _ _ _ => (pe_call GZ (hr.mono (by first | decide | omega)) rfl TZ.1 TZ.2.1 TZ.2.2 .nil pass0 (pa_cons (pv 3) pa_nil)))) pa_nil))))))
       (pss_one (ps_ret (pv 1))))), ?_⟩
        have len := dpl ha
        refine ⟨_, rfl, p, rfl, ⟨_, hp⟩, for_list (K := K) (a := p) (xs := xs)
          (fun i σ H' => ∃ (v2 v3 : Option V), σ = [some (.ref p), some (.int ((flat (ds.take i)).length : Nat)), v2, v3] ∧ Same H H')
          ⟨none, none, by rw [List.take_zero, flat]; rfl, Same.refl H⟩ ?_ ?_ ?_⟩
        · rintro i σ H' hi ⟨v2, v3, rfl, sm⟩
          exact sm.seq hp
        · rintro i x σ H1 hxi ⟨v2, v3, rfl, s1⟩
          obtain ⟨d, hd, hx⟩ := dp_get ha hxi
          have mem : d ∈ ds := List.mem_of_getElem? hd
          have tk := take_snoc hd
          have fl1 : flat (ds.take (i + 1)) = flat (ds.take i) ++ (d :: flatk d) := by rw [tk, flat_app, flat_one]
          have sub : ∀ e ∈ flat (ds.take (i + 1)), e ∈ flat ds := fun e he => by
            rw [← List.take_append_drop (i + 1) ds, flat_app]
            exact List.mem_append_left _ he
          have brd : BrOk d := br d (sub d (by rw [fl1]; exact List.mem_append_right _ List.mem_cons_self))
          refine ⟨_, rfl, _, _, rfl, rfl, ?_⟩
          refine ⟨_, rfl, H0, x, d, rfl, s0.trans s1, hx, brd, fun H2 l ks s2 nl hl hk => ?_⟩
          have lk := dpl hk
          rw [List.length_map] at lk
          refine ⟨l, rfl, ⟨_, SqL.of hl⟩, fun L nL => lc_list (K := K) (a := l) (xs := ks) (fun j H' => Same H2 H' ∧ H' L = some (.lst (((kids d).take j).map fun x => V.int (((flat x).length : Nat) : Int)))) ⟨same_upd nL, upd_same⟩ (fun j H' _ h => h.1.seq (SqL.of hl)) ?_ ?_⟩
          · rintro j k H3 hkj ⟨s3, e3⟩
            obtain ⟨pk, xk, dk, rfl, hdk, hpk, hak⟩ := dp_map_tup hk hkj
            have memk : dk ∈ kids d := List.mem_of_getElem? hdk
            refine ⟨rfl, ?_⟩
            dsimp only [tYes]
            rw [if_pos rfl]
            refine ⟨_, rfl, H0, pk, xk, dk, rfl, (s0.trans s1).trans (s2.trans s3), ((s0.trans s1).trans (s2.trans s3)).tupS hpk, hak, kid_fit (ft.mem mem) memk, fun e he => br e (sub e (by rw [fl1]; exact List.mem_append_right _ (List.mem_cons_of_mem _ (by rw [flatk_kids]; exact List.mem_flatMap.mpr ⟨dk, memk, he⟩)))), fun H4 s4 => ?_⟩
            refine ⟨_, s4 _ _ e3, ?_, same_updN nL (s3.trans s4), ?_⟩
            · have := kids_len d
              rw [List.length_map, List.length_take, sizeLine_eq]
              omega
            · rw [upd_same, take_snoc hdk, List.map_append]
              rfl
          · rintro H3 ⟨s3, e3⟩
            rw [lk, List.take_length] at e3
            refine ⟨L, (kids d).map fun x => (((flat x).length : Nat) : Int), rfl, SqL.of (by rw [e3, List.map_map]; rfl), _, _, rfl, rfl, ?_⟩
            refine ⟨some x, v3, ?_, s1.trans (s2.trans s3)⟩
            rw [sum_len, ← flatk_kids, fl1, List.length_append, List.length_cons]
            have e9 : (((flat (ds.take i)).length : Nat) : Int) + 1 + (((flatk d).length : Nat) : Int) = (((flat (ds.take i)).length + ((flatk d).length + 1) : Nat) : Int) := by omega
            dsimp only
            rw [e9]
            rfl
        · rintro σ H1 ⟨v2, v3, rfl, s1⟩
          rw [len, List.take_length]
          exact ⟨_, rfl, q H1 s1⟩
end
end Tr

/-! P10 -/
/-! ### the law's flat -/
namespace Tr
open PySem PySem.Spec PyProof.Rows L2 Rw
theorem ite_any {b : Bool} {A B : Prop} (h1 : A) (h2 : B) : if b = true then A else B := by
  cases b
  · exact iteF h2
  · exact iteT h1
theorem ifS_join {c : TT} {t u : TS} {D : Ends} {σ : L2.St} {H : Hp} (G : L2.St → Hp → Prop) (hG : ∀ σ' H', G σ' H' → D.nx σ' H') (h : (∀ σ' H', G σ' H' → D.nx σ' H') → c σ H fun b H1 => if b = true then t D σ H1 else u D σ H1) : tIfS c t u D σ H := h hG
theorem ifE_via {tc : TT} {ta tb : TE} {σ : L2.St} {H : Hp} {Q : VK} (F : V → Hp → Prop) (hQ : ∀ v H', F v H' → Q v H') (h : (∀ v H', F v H' → Q v H') → tc σ H fun b H1 => if b = true then ta σ H1 Q else tb σ H1 Q) : tIf tc ta tb σ H Q := h hQ
theorem but_last_txt {K : PySem.W.Frag} {H : Hp} {u : V} {ns : List Str} {Q : VK} (h : TxtT K H u ns) (q : ∀ H' u', Same H H' → TxtT K H' u' ns.dropLast → Q u' H') : rSlA K u none (some (-1)) H Q := by
  obtain ⟨t, rfl, ht⟩ := h
  refine ⟨t, _, rfl, ht, fun c => ?_, fun c u nu => ?_⟩
  · have e1 : HT.sIx (ns.map V.str).length (ns.map V.str).length (some (-1)) = ns.length - 1 := by rw [List.length_map]; exact sIx_m1 _ _
    have c2 := c.2
    rw [e1, List.length_map] at c2
    have e2 : ns = [] := List.eq_nil_of_length_eq_zero (by omega)
    rw [e2] at q ht
    exact q H _ (Same.refl H) ⟨t, rfl, ht⟩
  · refine q _ _ (same_upd nu) ⟨u, rfl, SqT.of ?_⟩
    rw [upd_same, cut_m1, List.map_dropLast]
theorem eqv_nilL (ds : List D) : PyData.eqv (.list ds) (.list []) = ds.isEmpty := by
  cases ds <;> simp [PyData.eqv, PyData.eqvAll]
theorem eqv_nilT (ds : List D) : PyData.eqv (.tuple ds) (.tuple []) = ds.isEmpty := by
  cases ds <;> simp [PyData.eqv, PyData.eqvAll]
/-- a row of the law's list: a tuple that begins with the item -/
def RowT (K : PySem.W.Frag) (H0 H : Hp) (v : V) (d : D) : Prop := ∃ p x rest, v = .ref p ∧ SqT K H p (x :: rest) ∧ Dp K H0 x d
theorem RowT.same {K : PySem.W.Frag} {H0 H H' : Hp} (s : Same H H') {v : V} {d : D} (h : RowT K H0 H v d) : RowT K H0 H' v d := let ⟨p, x, r, e, q, z⟩ := h; ⟨p, x, r, e, s.tupS q, z⟩
theorem RowT.updL {K : PySem.W.Frag} {H0 H : Hp} {l : Addr} {xs : List V} {u : HO} (hl : H l = some (.lst xs)) {v : V} {d : D} (h : RowT K H0 H v d) : RowT K H0 (upd H l u) v d := let ⟨p, x, r, e, q, z⟩ := h; ⟨p, x, r, e, sqT_updL hl q, z⟩
def spLF (K : PySem.W.Frag) (n : Nat) : Sp := fun vs H Q _ => ∃ (H0 : Hp) (p : Addr) (s b : Int) (hv : V) (xs : List V) (ds : List D) (held : List Str), vs = [.ref p, .int s, .int b, hv] ∧ Same H0 H ∧ SqT K H p xs ∧ DpAll K H0 xs ds ∧ Fits n ds ∧ (∀ d ∈ flat ds, BrOk d) ∧ TxtT K H hv held ∧ held.length + (flat ds).length ≤ 900 ∧
  ∀ H' l ys, Same H H' → H l = none → H' l = some (.lst ys) → All2 (RowT K H0 H') ys (flat ds) → Q (.ref l) H'
theorem kids_cnt {d : D} : (kids d).length = 0 ∨ ∃ x y, kids d = [x, y] := by
  unfold kids
  cases forkOf d with
  | none => exact .inl rfl
  | some p => exact .inr ⟨p.1, p.2, rfl⟩
theorem kids_shaped {n : Nat} {d : D} (ft : FitD (n + 1) d) (hn : n ≤ 40) : SeqAt.shaped (.list ((kids d).map PyData.tuple)) = true := by
  refine shaped_of ?_ ?_
  · rw [PyData.canLay0]
    refine lays_of _ ?_
    rcases kids_cnt (d := d) with h | ⟨x, y, h⟩
    · rw [List.eq_nil_of_length_eq_zero h]; rfl
    · rw [h]
      have gx := (kid_fit ft (x := x) (by rw [h]; exact List.mem_cons_self)).good
      have gy := (kid_fit ft (x := y) (by rw [h]; exact List.mem_cons_of_mem _ List.mem_cons_self)).good
      simp only [List.map_cons, List.map_nil, goodAll, goodD, gx, gy]
      rfl
  · rw [PyData.depth]
    rcases kids_cnt (d := d) with h | ⟨x, y, h⟩
    · rw [List.eq_nil_of_length_eq_zero h]; decide
    · rw [h]
      have gx := (kid_fit ft (x := x) (by rw [h]; exact List.mem_cons_self)).dep
      have gy := (kid_fit ft (x := y) (by rw [h]; exact List.mem_cons_of_mem _ List.mem_cons_self)).dep
      simp only [List.map_cons, List.map_nil, PyData.depthAll, PyData.depth]
      omega
theorem flat_ge : ∀ ds : List D, ds.length ≤ (flat ds).length
  | [] => Nat.zero_le _
  | d :: ds => by
    have h := flat_ge ds
    rw [flat, List.length_cons, List.length_cons, List.length_append]
    omega
theorem fits_sh {n : Nat} {ds : List D} (h : Fits n ds) (hn : n ≤ 40) : SeqAt.shaped (.tuple ds) = true := fits_shaped h hn
theorem nilL_shaped : SeqAt.shaped (.list []) = true := rfl
theorem nilT_shaped : SeqAt.shaped (.tuple []) = true := rfl
section
variable {P : Program} {w : World} {K : PySem.W.Frag} {mg : Str → Option Value} {base : Heap}
abbrev sLF : Stmt := top 46
theorem scLF : FnScope ["_law_items", "_law_start", "_law_follow", "_law_held", "_law_rows", "_law_at_here", "_law_kept", "_law_number", "_law_item", "_law_size_here", "_law_some_here", "_law_behind", "_law_other", "_law_nexts"] ["_law_items", "_law_start", "_law_follow", "_law_held"] (defScope sLF) := ⟨rfl, rfl, rfl, by decide +kernel, rfl, by decide +kernel, by decide +kernel⟩
theorem ok_lf {f fT fZ : Addr} {fd fdT fdZ : FuncData} (F : Fun K "_law_flat" "_law_flat" sLF f fd) (TX : Called K mg "_law_flat" ["_law_items", "_law_start", "_law_follow", "_law_held"] f fd) (GT : FnOk P w K mg base CX0 1 fT fdT ["_law_item"] (spTu K)) (TT : Called K mg "_law_tuples" ["_law_item"] fT fdT) (TZ : Called K mg "_law_size" ["_law_items"] fZ fdZ)
    (GZa : ∀ n, FnOk P w K mg base CX0 (n + 2) fZ fdZ ["_law_items"] (spSz K n)) (m_enumerate : mg "enumerate" = none) (m_len : mg "len" = none) : ∀ n, n ≤ 40 → FnOk P w K mg base CX0 (n + 3) f fd ["_law_items", "_law_start", "_law_follow", "_law_held"] (spLF K n) := by
  intro n
  induction n with
  | zero =>
    intro _
    refine F.ok scLF (fun vs H Q E h => ?_) (fun cdv A outer s H vs Q E hr h => ?_)
    · obtain ⟨H0, p, s, b, hv, xs, ds, held, rfl, _⟩ := h
      rfl
    · obtain ⟨H0, p, s, b, hv, xs, ds, held, rfl, _, _, _, ft, _⟩ := h
      exact absurd ft.dep (Nat.not_lt_zero _)
  | succ n ih =>
    intro hn
    have GX := ih (by omega)
    have GZ := GZa (n + 1)
    refine F.ok scLF (fun vs H Q E h => ?_) (fun cdv A outer s H vs Q E hr h => ?_)
    · obtain ⟨H0, p, s, b, hv, xs, ds, held, rfl, _⟩ := h
      rfl
    · obtain ⟨H0, p, s, b, hv, xs, ds, held, rfl, s0, hp, ha, ft, br, hh, hz, q⟩ := h
      refine ⟨_, (pss_cons (ps_par3 (i := 4) (j := 5) (l := 6) rfl scLF.nd rfl rfl rfl (by decide) (by decide) (by decide) rfl rfl rfl (pa_cons (pe_lst pa_nil) (pa_cons (pv 1) (pa_cons (pv 3) pa_nil))) (by rfl))
       (pss_cons (ps_for PassesOwn.never rfl (pi_enumT rfl m_enumerate (pa_cons (pv 0) pa_nil)) (pg_tup rfl (pgs_cons (pg_name (i := 7) scLF.nd rfl (.inl rfl)) (pgs_cons (pg_name (i := 8) scLF.nd rfl (.inl rfl)) pgs_nil)))
       (pss_cons (ps_par (i := 9) (j := 10) rfl scLF.nd rfl rfl (by decide) rfl rfl (pa_cons (pe_call GZ (hr.mono (by first | decide | omega)) rfl TZ.1 TZ.2.1 TZ.2.2 .nil pass0 (pa_cons (pe_tup (pa_cons (pv 8) pa_nil)) pa_nil)) (pa_cons (pe_call GT (hr.mono (by first | decide | omega)) rfl TT.1 TT.2.1 TT.2.2 .nil pass0 (pa_cons (pv 8) pa_nil)) pa_nil)) (by rfl))
       (pss_cons (ps_set (i := 11) scLF.nd rfl (.inl rfl) (pe_ifExp (pt_cmpR op_lt (pe_op op_add (pv 7) pe_int) (pe_callB (call_len_K (K := K) rfl) (by rfl) m_len PySem.boot_len (pa_cons (pv 0) pa_nil)) (nomark _))
       (pe_op op_add (pv 5) (pv 9))
       (pv 2)))
       (pss_cons (ps_if (pt_cmpR (Nm.op_eqDK (K := K) rfl hr.units) (pv 10) (pe_lst pa_nil) (nomark _))
       (pss_one (ps_expr (pe_bm PySem.F.plainAttrs_list PySem.F.slot_list_append PySem.F.type_list_append mt_append (pv 4) (pa_cons (pe_tup (pa_cons (pv 8) (pa_cons (pe_tup (pa_cons (pv 11) pa_nil)) (pa_cons (pv 6) pa_nil)))) pa_nil))))
       (pss_cons (ps_set (i := 12) scLF.nd rfl (.inl rfl) (pe_op op_add (pe_op op_add (pv 5) pe_int) (pe_call GZ (hr.mono (by first | decide | omega)) rfl TZ.1 TZ.2.1 TZ.2.2 .nil pass0 (pa_cons (pe_ix (ix_listK (K := K) rfl) (pv 10) pe_int (fun _ _ => rfl)) pa_nil))))
       (pss_cons (ps_set (i := 13) scLF.nd rfl (.inl rfl) (pe_tup (pa_cons (pe_ifExp (pt_cmpR (Nm.op_neDK (K := K) rfl hr.units) (pe_ix (ix_listK (K := K) rfl) (pv 10) pe_int (fun _ _ => rfl)) (pe_tup pa_nil) (nomark _))
       (pe_op op_add (pv 5) pe_int)
       (pv 11)) (pa_cons (pe_ifExp (pt_cmpR (Nm.op_neDK (K := K) rfl hr.units) (pe_ix (ix_listK (K := K) rfl) (pv 10) pe_int (fun _ _ => rfl)) (pe_tup pa_nil) (nomark _))
       (pv 12)
       (pv 11)) pa_nil))))
       (pss_cons (ps_set (i := 4) scLF.nd rfl (.inl rfl) (pe_op op_cat (pe_op op_cat (pv 4) (pe_lst (pa_cons (pe_tup (pa_cons (pv 8) (pa_cons (pv 13) (pa_cons (pv 6) pa_nil)))) pa_nil))) (pe_call GX (hr.mono (by first | decide | omega)) rfl TX.1 TX.2.1 TX.2.2 .nil pass0 (pa_cons (pe_ix (ix_listK (K := K) rfl) (pv 10) pe_int (fun _ _ => rfl)) (pa_cons (pe_op op_add (pv 5) pe_int) (pa_cons (pv 11) (pa_cons (pv 6) pa_nil)))))))
       (pss_one (ps_set (i := 4) scLF.nd rfl (.inl rfl) (pe_op op_cat (pv 4) (pe_call GX (hr.mono (by first | decide | omega)) rfl TX.1 TX.2.1 TX.2.2 .nil pass0 (pa_cons (pe_ix (ix_listK (K := K) rfl) (pv 10) pe_int (fun _ _ => rfl)) (pa_cons (pv 12) (pa_cons (pv 11) (pa_cons (pv 6) pa_nil))))))))))))
       (pss_cons (ps_if (pt_cmpR op_eq (pe_ix (ix_tupK (K := K) rfl) (pv 8) pe_int (fun _ _ => rfl)) pe_str (nomark _))
       (pss_one (ps_set (i := 6) scLF.nd rfl (.inl rfl) (pe_op op_catA (pv 6) (pe_tup (pa_cons (pe_ix (ix_tupK (K := K) rfl) (pv 8) pe_int (fun _ _ => rfl)) pa_nil)))))
       pss_nil)
       (pss_cons (ps_if (pt_cmpR op_eq (pe_ix (ix_tupK (K := K) rfl) (pv 8) pe_int (fun _ _ => rfl)) pe_str (nomark _))
       (pss_one (ps_set (i := 6) scLF.nd rfl (.inl rfl) (pe_slice sl_tupA (pv 6) po_none (po_some (pe_un un_neg pe_int)))))
       pss_nil)
       (pss_one (ps_set (i := 5) scLF.nd rfl (.inl rfl) (pe_op op_add (pv 5) (pv 9))))))))))
       (pss_one (ps_ret (pv 4))))), ?_⟩
      have len := dpl ha
      have dlen : ds.length ≤ (flat ds).length := flat_ge ds
      refine ⟨Nat.zero_le _, fun l nl => ?_⟩
      have s1 : Same H (upd H l (.lst [])) := same_upd nl
      refine ⟨_, rfl, _, rfl, _, _, _, rfl, ?_⟩
      refine ⟨_, rfl, p, _, rfl, s1.tupS hp, for_enumT (K := K) (a := p) (xs := xs)
        (fun i σ H' => ∃ (l : Addr) (ys : List V) (a : Int) (u : V) (t : List Str) (v7 v8 v9 v10 v11 v12 v13 : Option V), σ = [some (.ref p), some (.int s), some (.int b), some hv, some (.ref l), some (.int a), some u, v7, v8, v9, v10, v11, v12, v13] ∧ Same H H' ∧ H l = none ∧ H' l = some (.lst ys) ∧ All2 (RowT K H0 H') ys (flat (ds.take i)) ∧
          TxtT K H' u t ∧ t.length ≤ held.length + i)
        ⟨l, [], s, hv, held, none, none, none, none, none, none, none, rfl, s1, nl, upd_same, by rw [List.take_zero, flat]; exact .nil, hh.same s1, Nat.le_refl _⟩ ?_ ?_ ?_⟩
      · rintro i σ H' hi ⟨_, _, _, _, _, v7, v8, v9, v10, v11, v12, v13, rfl, sm, _⟩
        exact sm.tupS hp
      · rintro i x σ H1 T1 hxi ⟨l, ys, a, u, t, v7, v8, v9, v10, v11, v12, v13, rfl, sm, nl, hl, hy, hu, tl⟩ nT
        obtain ⟨d, hd, hx⟩ := dp_get ha hxi
        have mem : d ∈ ds := List.mem_of_getElem? hd
        have hi : i < ds.length := (List.getElem?_eq_some_iff.mp hd).1
        have tk := take_snoc hd
        have fl1 : flat (ds.take (i + 1)) = flat (ds.take i) ++ (d :: flatk d) := by rw [tk, flat_app, flat_one]
        have sub : ∀ e ∈ flat (ds.take (i + 1)), e ∈ flat ds := fun e he => by
          rw [← List.take_append_drop (i + 1) ds, flat_app]
          exact List.mem_append_left _ he
        have le1 : (flat (ds.take (i + 1))).length ≤ (flat ds).length := by
          have z : (flat ds).length = (flat (ds.take (i + 1))).length + (flat (ds.drop (i + 1))).length := by
            rw [← List.length_append, ← flat_app, List.take_append_drop]
          omega
        have brd : BrOk d := br d (sub d (by rw [fl1]; exact List.mem_append_right _ List.mem_cons_self))
        have brk : ∀ e ∈ flatk d, BrOk e := fun e he => br e (sub e (by rw [fl1]; exact List.mem_append_right _ (List.mem_cons_of_mem _ he)))
        have ftd := ft.mem mem
        have u0 := same_upd (o := .tup [.int (i : Nat), x]) nT
        have sm0 := sm.trans u0
        refine ⟨T1, _, rfl, SqT.of upd_same, rfl, _, _, rfl, _, _, rfl, rfl, ?_⟩
        refine ⟨_, rfl, by show 1 ≤ sizeLine; decide, fun y ny => ?_⟩
        have s4 := same_upd (o := HO.tup [x]) ny
        have t4 := s0.trans (sm0.trans s4)
        refine ⟨H0, y, [x], [d], rfl, t4, SqT.of upd_same, .cons hx .nil, fit_one ftd, fun e he => ?_, fun H5 s5 => ?_⟩
        · rw [flat_one] at he
          rcases List.mem_cons.mp he with rfl | he
          · exact brd
          · exact brk e he
        refine ⟨_, rfl, H0, x, d, rfl, t4.trans s5, hx, brd, fun H6 kl ks s6 nkl hkl hks => ⟨_, _, rfl, ?_⟩⟩
        have sA := (u0.trans s4).trans (s5.trans s6)
        have smA := sm.trans sA
        have hlA := sA _ _ hl
        have hyA : All2 (RowT K H0 H6) ys (flat (ds.take i)) := hy.mono fun _ _ z => z.same sA
        have huA := hu.same sA
        dsimp only
        refine seqS_in (asg_via (fun v H' => Same H6 H' ∧ ∃ z : Int, v = .int z) (fun Qx hQ => ?_) (fun v H7 ⟨s7, z, ev⟩ => ?_))
        · refine ⟨_, rfl, _, _, rfl, rfl, _, rfl, p, _, rfl, .inr (smA.tupS hp), _, _, rfl, rfl, _, rfl, ?_⟩
          refine ite_any ?_ ?_
          · exact ⟨_, rfl, _, rfl, _, _, rfl, rfl, hQ _ _ ⟨Same.refl _, _, rfl⟩⟩
          · exact ⟨_, rfl, hQ _ _ ⟨Same.refl _, _, rfl⟩⟩
        subst ev
        refine name_in ?_
        try dsimp only
        have sm7 := smA.trans s7
        have hl7 := s7 _ _ hlA
        have hy7 : All2 (RowT K H0 H7) ys (flat (ds.take i)) := hyA.mono fun _ _ z => z.same s7
        have hu7 := huA.same s7
        have hkl7 := s7 _ _ hkl
        have sz : (RowT K H0 H7) = (RowT K H0 H7) := rfl
        refine seqS_in (ifS_join (fun σ' H' => ∃ (l' : Addr) (ys' : List V) (w12 w13 : Option V), σ' = [some (.ref p), some (.int s), some (.int b), some hv, some (.ref l'), some (.int a), some u, some (.int (i : Nat)), some x, some (.int ((flat [d]).length : Nat)), some (.ref kl), some (.int z), w12, w13] ∧ Same H H' ∧ H l' = none ∧ H' l' = some (.lst ys') ∧ All2 (RowT K H0 H') ys' (flat (ds.take (i + 1))) ∧ TxtT K H' u t) ?_ fun hG => ?_)
        · rintro σ' H8 ⟨l', ys', w12, w13, rfl, sm8, nl8, hl8, hy8, hu8⟩
          obtain ⟨wd, r, rfl, b1, b2, b3⟩ := brd
          cases hx with
          | @tup px xr _ hpx hax =>
          cases hax with
          | @cons x0 xr _ _ h0 hax =>
          cases h0
          have hp8 := (s0.trans sm8).tupS hpx
          try dsimp only
          refine seqS_in (ifS_join (fun σ' H' => ∃ (u' : V) (t' : List Str), σ' = [some (.ref p), some (.int s), some (.int b), some hv, some (.ref l'), some (.int a), some u', some (.int (i : Nat)), some (.ref px), some (.int ((flat [PyData.tuple (.str wd :: r)]).length : Nat)), some (.ref kl), some (.int z), w12, w13] ∧ Same H8 H' ∧ TxtT K H' u' t' ∧ t'.length ≤ t.length + 1) ?_ fun hG => ?_)
          · rintro σ2 H9 ⟨u', t', rfl, s9, hu9, tl9⟩
            try dsimp only
            refine seqS_in (ifS_join (fun σ' H' => ∃ (u' : V) (t' : List Str), σ' = [some (.ref p), some (.int s), some (.int b), some hv, some (.ref l'), some (.int a), some u', some (.int (i : Nat)), some (.ref px), some (.int ((flat [PyData.tuple (.str wd :: r)]).length : Nat)), some (.ref kl), some (.int z), w12, w13] ∧ Same H8 H' ∧ TxtT K H' u' t' ∧ t'.length ≤ t.length + 1) ?_ fun hG => ?_)
            · rintro σ2 H10 ⟨u2, t2, rfl, s10, hu10, tl10⟩
              refine ⟨_, rfl, _, rfl, _, _, rfl, rfl, ?_⟩
              exact ⟨l', ys', _, u2, t2, _, _, _, _, _, _, _, rfl, sm8.trans s10, nl8, s10 _ _ hl8, hy8.mono fun _ _ z => z.same s10, hu10, by omega⟩
            · refine ⟨_, rfl, px, _, _, _, rfl, rfl, s9.tupS hp8, at0, rfl, _, rfl, ?_⟩
              rw [Rw.dec_str]
              by_cases h1 : wd = "give"
              · rw [decide_eq_true h1]
                refine iteT ?_
                refine ⟨_, rfl, _, rfl, _, rfl, ?_⟩
                dsimp only [tNoPart]
                refine but_last_txt hu9 fun H10 u10 s10 hu10 => ?_
                exact name_in (hG _ _ ⟨u10, _, rfl, s9.trans s10, hu10, by rw [List.length_dropLast]; omega⟩)
              · rw [decide_eq_false h1]
                exact iteF (hG _ _ ⟨_, _, rfl, s9, hu9, tl9⟩)
          · refine ⟨_, rfl, px, _, _, _, rfl, rfl, hp8, at0, rfl, _, rfl, ?_⟩
            rw [Rw.dec_str]
            by_cases h1 : wd = "take"
            · rw [decide_eq_true h1]
              obtain ⟨n1, r', rfl⟩ := b3 (.inl h1)
              cases hax with
              | @cons x1 xr2 _ _ h0 hax =>
              cases h0
              refine iteT ?_
              refine ⟨_, rfl, _, rfl, px, _, _, _, rfl, rfl, hp8, at1, by show 1 ≤ sizeLine; decide, fun y ny => ?_⟩
              have s9 := same_upd (o := HO.tup [V.str n1]) ny
              refine cat_txt (hu8.same s9) ⟨y, rfl, SqT.of upd_same⟩ (bs := [n1]) (by show t.length + 1 ≤ 1000; omega) fun H9 u9 s10 hu9 => ?_
              exact name_in (hG _ _ ⟨u9, _, rfl, s9.trans s10, hu9, by rw [List.length_append]; exact Nat.le_refl _⟩)
            · rw [decide_eq_false h1]
              exact iteF (hG _ _ ⟨_, _, rfl, Same.refl _, hu8, Nat.le_succ _⟩)
        · refine ⟨_, rfl, Nat.zero_le _, fun ln nln => ?_⟩
          have s8 := same_upd (o := HO.lst []) nln
          have s08 := s0.trans (sm7.trans s8)
          refine ⟨_, _, .lst (SqL.of (s8 _ _ hkl7)) (hks.same s08), .lst (SqL.of upd_same) .nil, kids_shaped ftd (by omega), nilL_shaped, _, rfl, ?_⟩
          rw [eqv_nilL]
          have sm8 := sm7.trans s8
          have hl8 := s8 _ _ hl7
          have hy8 : All2 (RowT K H0 (upd H7 ln (.lst []))) ys (flat (ds.take i)) := hy7.mono fun _ _ z => z.same s8
          have hu8 := hu7.same s8
          have hkl8 := s8 _ _ hkl7
          generalize upd H7 ln (.lst []) = H8 at s8 s08 sm8 hl8 hy8 hu8 hkl8
          have yl := hy8.length
          rw [fl1, List.length_append, List.length_cons] at le1
          rcases kids_cnt (d := d) with hk0 | ⟨kx, ky, hk2⟩
          · rw [show (List.map PyData.tuple (kids d)).isEmpty = true by rw [List.eq_nil_of_length_eq_zero hk0]; rfl]
            have fk : flatk d = [] := by rw [flatk_kids, List.eq_nil_of_length_eq_zero hk0]; rfl
            refine iteT ?_
            refine ⟨_, rfl, .inl ⟨rfl, _, SqL.of hl8⟩, _, rfl, _, rfl, by show 1 ≤ sizeLine; decide, fun y1 n1 => ⟨_, rfl, by show 3 ≤ sizeLine; decide, fun y2 n2 => ?_⟩⟩
            have q1 := same_upd (o := HO.tup [V.int z]) n1
            have q2 := same_upd (o := HO.tup [x, V.ref y1, u]) n2
            have q12 := q1.trans q2
            refine ⟨l, _, _, rfl, rfl, q12 _ _ hl8, by rw [sizeLine_eq]; omega, ?_⟩
            refine hG _ _ ⟨l, ys ++ [V.ref y2], v12, v13, rfl, same_updN nl (sm8.trans q12), nl, upd_same, ?_, (hu8.same q12).updL (q12 _ _ hl8)⟩
            rw [fl1, fk]
            exact (hy8.mono fun _ _ z => (z.same q12).updL (q12 _ _ hl8)).append (.cons ⟨y2, x, _, rfl, sqT_updL (q12 _ _ hl8) (SqT.of upd_same), hx⟩ .nil)
          · rw [show (List.map PyData.tuple (kids d)).isEmpty = false by rw [hk2]; rfl]
            rw [hk2] at hks
            have mx : kx ∈ kids d := by rw [hk2]; exact List.mem_cons_self
            have my : ky ∈ kids d := by rw [hk2]; exact List.mem_cons_of_mem _ List.mem_cons_self
            have bk : ∀ z ∈ kids d, ∀ e ∈ flat z, BrOk e := fun z hz e he => brk e ((kid_flat hz).2 e he)
            have fk : flatk d = flat kx ++ flat ky := by rw [flatk_kids, hk2]; simp
            rw [fk, List.length_append] at le1
            cases hks with
            | @cons k1 ks _ _ h1 hk =>
            cases hk with
            | @cons k2 ks _ _ h2 hk =>
            cases hk
            cases h1 with
            | @tup p1 xs1 _ hp1 ha1 =>
            cases h2 with
            | @tup p2 xs2 _ hp2 ha2 =>
            refine iteF ?_
            refine ⟨_, rfl, _, _, rfl, rfl, ?_⟩
            refine ⟨_, rfl, kl, _, _, _, rfl, rfl, SqL.of hkl8, at0, H0, p1, xs1, kx, rfl, s08, s08.tupS hp1, ha1, (kid_fit ftd mx).mono (Nat.le_succ _), bk kx mx, fun H9 s9 => ?_⟩
            refine ⟨_, _, rfl, rfl, ?_⟩
            refine name_in ?_
            try dsimp only
            have s09 := s08.trans s9
            have hkl9 := s9 _ _ hkl8
            refine seqS_in (asg_via (fun v H' => Same H9 H') (fun Qx hQ => ?_) (fun v H10 s10 => ?_))
            · refine ⟨_, rfl, kl, _, _, _, rfl, rfl, SqL.of hkl9, at0, Nat.zero_le _, fun e ne => ?_⟩
              have se := same_upd (o := HO.tup []) ne
              have t9 := s09.trans se
              refine ⟨_, _, .tup (t9.tupS hp1) (ha1.same t9), .tup (SqT.of upd_same) .nil, fits_sh (kid_fit ftd mx) (by omega), nilT_shaped, _, rfl, ?_⟩
              refine ite_any ?_ ?_
              · refine ⟨_, rfl, _, _, rfl, rfl, ?_⟩
                refine ⟨_, rfl, kl, _, _, _, rfl, rfl, SqL.of (se _ _ hkl9), at1, Nat.zero_le _, fun e2 ne2 => ?_⟩
                have se2 := same_upd (o := HO.tup []) ne2
                have t10 := t9.trans se2
                refine ⟨_, _, .tup (t10.tupS hp2) (ha2.same t10), .tup (SqT.of upd_same) .nil, fits_sh (kid_fit ftd my) (by omega), nilT_shaped, _, rfl, ?_⟩
                refine ite_any ?_ ?_
                · exact ⟨_, rfl, by show 2 ≤ sizeLine; decide, fun o no => hQ _ _ (se.trans (se2.trans (same_upd no)))⟩
                · exact ⟨_, rfl, by show 2 ≤ sizeLine; decide, fun o no => hQ _ _ (se.trans (se2.trans (same_upd no)))⟩
              · refine ⟨_, rfl, ?_⟩
                refine ⟨_, rfl, kl, _, _, _, rfl, rfl, SqL.of (se _ _ hkl9), at1, Nat.zero_le _, fun e2 ne2 => ?_⟩
                have se2 := same_upd (o := HO.tup []) ne2
                have t10 := t9.trans se2
                refine ⟨_, _, .tup (t10.tupS hp2) (ha2.same t10), .tup (SqT.of upd_same) .nil, fits_sh (kid_fit ftd my) (by omega), nilT_shaped, _, rfl, ?_⟩
                refine ite_any ?_ ?_
                · exact ⟨_, rfl, by show 2 ≤ sizeLine; decide, fun o no => hQ _ _ (se.trans (se2.trans (same_upd no)))⟩
                · exact ⟨_, rfl, by show 2 ≤ sizeLine; decide, fun o no => hQ _ _ (se.trans (se2.trans (same_upd no)))⟩
            refine name_in ?_
            try dsimp only
            have il : i ≤ (flat (ds.take i)).length := by
              have z := flat_ge (ds.take i)
              rw [List.length_take] at z
              omega
            have c10 := s9.trans s10
            have t10 := s08.trans c10
            have sm10 := sm8.trans c10
            refine ⟨_, rfl, _, rfl, _, rfl, _, rfl, by show 3 ≤ sizeLine; decide, fun y2 n2 => ⟨by show 1 ≤ sizeLine; decide, fun l4 n4 => ?_⟩⟩
            have q1 := same_upd (o := HO.tup [x, v, u]) n2
            have q2 := same_upd (o := HO.lst [V.ref y2]) n4
            have e2 := q2 _ _ (upd_same (H := H10) (a := y2) (o := HO.tup [x, v, u]))
            have e4 : (upd (upd H10 y2 (HO.tup [x, v, u])) l4 (HO.lst [V.ref y2])) l4 = some (.lst [V.ref y2]) := upd_same
            have q12 := c10.trans (q1.trans q2)
            have sm11 := sm8.trans q12
            generalize upd (upd H10 y2 (HO.tup [x, v, u])) l4 (HO.lst [V.ref y2]) = H11 at e2 e4 q12 sm11
            have t11 := s08.trans q12
            refine ⟨l, l4, _, _, rfl, rfl, q12 _ _ hl8, e4, by rw [sizeLine_eq]; show _ + 1 ≤ _; omega, fun l5 n5 => ?_⟩
            have q5 := same_upd (o := HO.lst (ys ++ [V.ref y2])) n5
            have e5 : (upd H11 l5 (.lst (ys ++ [V.ref y2]))) l5 = some (.lst (ys ++ [V.ref y2])) := upd_same
            have q15 := q12.trans q5
            have e25 := q5 _ _ e2
            generalize upd H11 l5 (.lst (ys ++ [V.ref y2])) = H12 at q5 e5 q15 e25
            have t12 := s08.trans q15
            refine ⟨_, rfl, kl, _, _, _, rfl, rfl, SqL.of (q15 _ _ hkl8), at0, _, rfl, _, _, rfl, rfl, _, rfl, _, rfl, H0, p1, _, _, u, xs1, kx, t, rfl, t12, t12.tupS hp1, ha1, kid_fit ftd mx, bk kx mx, hu8.same q15, by omega, fun H13 l6 ys6 s6 n6 h6 hy6 => ?_⟩
            have w6 := hy6.length
            refine ⟨l5, l6, _, _, rfl, rfl, s6 _ _ e5, h6, by rw [sizeLine_eq, List.length_append]; show _ + 1 + _ ≤ _; omega, fun l7 n7 => ?_⟩
            have q7 := same_upd (o := HO.lst (ys ++ [V.ref y2] ++ ys6)) n7
            have e7 : (upd H13 l7 (.lst (ys ++ [V.ref y2] ++ ys6))) l7 = some (.lst (ys ++ [V.ref y2] ++ ys6)) := upd_same
            have hy7' : All2 (RowT K H0 (upd H13 l7 (.lst (ys ++ [V.ref y2] ++ ys6)))) ys6 (flat kx) := hy6.mono fun _ _ z => z.same q7
            have q57 := s6.trans q7
            generalize upd H13 l7 (.lst (ys ++ [V.ref y2] ++ ys6)) = H14 at q7 e7 q57 hy7'
            have q17 := q15.trans q57
            have t14 := s08.trans q17
            refine name_in ?_
            try dsimp only
            refine ⟨_, rfl, _, rfl, kl, _, _, _, rfl, rfl, SqL.of (q17 _ _ hkl8), at1, _, rfl, _, rfl, _, rfl, H0, p2, _, _, u, xs2, ky, t, rfl, t14, t14.tupS hp2, ha2, kid_fit ftd my, bk ky my, hu8.same q17, by omega, fun H15 l8 ys8 s8' n8 h8 hy8' => ?_⟩
            have w8 := hy8'.length
            refine ⟨l7, l8, _, _, rfl, rfl, s8' _ _ e7, h8, by rw [sizeLine_eq, List.length_append, List.length_append]; show _ + 1 + _ + _ ≤ _; omega, fun l9 n9 => ?_⟩
            have q9 := same_upd (o := HO.lst (ys ++ [V.ref y2] ++ ys6 ++ ys8)) n9
            have q89 := s8'.trans q9
            have smF := sm8.trans q17
            refine name_in (hG _ _ ⟨l9, _, _, _, rfl, smF.trans q89, (smF.trans s8').free n9, upd_same, ?_, hu8.same (q17.trans q89)⟩)
            rw [fl1, fk]
            have r1 : All2 (RowT K H0 (upd H15 l9 (.lst (ys ++ [V.ref y2] ++ ys6 ++ ys8)))) [V.ref y2] [d] := .cons ⟨y2, x, _, rfl, SqT.of (q89 _ _ (q57 _ _ e25)), hx⟩ .nil
            have z := (((hy8.mono fun _ _ z => z.same (q17.trans q89)).append r1).append (hy7'.mono fun _ _ z => z.same q89)).append (hy8'.mono fun _ _ z => z.same q9)
            simpa using z
      · rintro σ H1 ⟨l, ys, a, u, t, v7, v8, v9, v10, v11, v12, v13, rfl, sm, nl, hl, hy, hu, tl⟩
        rw [len, List.take_length] at hy
        exact ⟨_, rfl, q H1 l ys sm nl hl hy⟩
end
end Tr

/-! K1 -/
/-! ### what is drawn is right: its form, its takes and gives -/
namespace Tr
open PySem PySem.Spec PyProof.Rows L2 Rw
/-- right at depth a; h: the names that may be held around it -/
structure Lg (a : Nat) (h : List Str) (ds : List D) : Prop where
  mis : ∀ b ∈ misl ds a, b = false
  wl : ∀ (t ar : List Str) (later : List D), (∀ n ∈ ar ++ t, n ∈ h) → (∀ b ∈ wl later t ar, b = false) → ∀ b ∈ Tr.wl (ds ++ later) t ar, b = false
theorem misl_nil (a : Nat) : misl [] a = [] := by rw [misl]
theorem misl_cons (d : D) (ds : List D) (a : Nat) : misl (d :: ds) a = (!shaped d a) :: ((if shaped d a then misk d a else []) ++ misl ds a) := by rw [misl]
theorem wl_nil (t ar : List Str) : wl [] t ar = [] := by rw [wl]
theorem wl_cons (d : D) (ds : List D) (t ar : List Str) : wl (d :: ds) t ar = isWr d ds ar t :: (wlk d (ar ++ behindD d t) ++ wl ds (behindD d t) ar) := by rw [wl]
theorem Lg.nil {a : Nat} {h : List Str} : Lg a h [] := ⟨(fun b hb => by rw [misl_nil] at hb; cases hb), fun t ar later _ hl => hl⟩
theorem Lg.app {a : Nat} {h : List Str} {x y : List D} (p : Lg a h x) (q : Lg a h y) : Lg a h (x ++ y) := by
  refine ⟨fun b hb => ?_, fun t ar later hn hl => ?_⟩
  · rw [misl_app] at hb
    exact (List.mem_append.mp hb).elim (p.mis b) (q.mis b)
  · rw [List.append_assoc]
    exact p.wl t ar (y ++ later) hn (q.wl t ar later hn hl)
theorem Lg.sub {a : Nat} {h : List Str} {x : List D} (p : Lg a h x) (ar : List Str) (hn : ∀ n ∈ ar, n ∈ h) : ∀ b ∈ Tr.wl x [] ar, b = false := by
  have z := p.wl [] ar [] (by rw [List.append_nil]; exact hn) (fun b hb => by rw [wl_nil] at hb; cases hb)
  rw [List.append_nil] at z
  exact z
theorem Lg.one {a : Nat} {h : List Str} {d : D} (hs : shaped d a = true) (hk : ∀ b ∈ misk d a, b = false) (hb : ∀ t, behindD d t = t) (hw : ∀ later ar t, (∀ n ∈ ar ++ t, n ∈ h) → isWr d later ar t = false) (hkw : ∀ ar, (∀ n ∈ ar, n ∈ h) → ∀ b ∈ wlk d ar, b = false) : Lg a h [d] := by
  refine ⟨fun b hb' => ?_, fun t ar later hn hl => ?_⟩
  · rw [misl_cons, hs, misl_nil, List.append_nil, if_pos rfl] at hb'
    rcases List.mem_cons.mp hb' with e | e
    · rw [e]; rfl
    · exact hk b e
  · intro b hb'
    rw [List.cons_append, List.nil_append, wl_cons, hb, hw later ar t hn] at hb'
    rcases List.mem_cons.mp hb' with e | e
    · exact e
    · exact (List.mem_append.mp e).elim (hkw _ hn b) (hl b)
theorem shaped1 (w : Str) (a : Nat) : shaped (.tuple [.str w]) a = decide (w = "use") := by rw [shaped]
theorem shaped2 (w : Str) (n : D) (a : Nat) : shaped (.tuple [.str w, n]) a = (decide (w ≠ "use") && decide (w ∈ plain6) && nameD n) := by rw [shaped]
theorem shaped3 (w : Str) (n v : D) (a : Nat) : shaped (.tuple [.str w, n, v]) a = (decide (w ≠ "use") && !decide (w ∈ plain6) && (if w = "piece" then nameD n && innerP v else decide (a < 3) && forkShape w [n, v])) := by rw [shaped]
theorem shaped4 (w : Str) (n x y : D) (a : Nat) : shaped (.tuple [.str w, n, x, y]) a = (decide (w ≠ "use") && !decide (w ∈ plain6) && !decide (w = "piece") && decide (a < 3) && forkShape w [n, x, y]) := by rw [shaped]
theorem Lg.use {a : Nat} {h : List Str} : Lg a h [.tuple [.str "use"]] := by
  have f : forkOf (.tuple [.str "use"]) = none := rfl
  have e1 : ("use" : Str) ≠ "take" := by decide +kernel
  have e2 : ("use" : Str) ≠ "give" := by decide +kernel
  have e3 : ("use" : Str) ≠ "piece" := by decide +kernel
  refine Lg.one (by rw [shaped1]; decide +kernel) (fun b hb => by rw [(fork_none f).2.1] at hb; cases hb) (fun t => ?_) (fun later ar t _ => ?_) fun ar _ b hb => ?_
  · show (if ("use" : Str) = "take" then _ else if ("use" : Str) = "give" then _ else _) = t
    rw [if_neg e1, if_neg e2]
  · show (if ("use" : Str) = "give" then _ else if ("use" : Str) = "take" then _ else (decide (("use" : Str) = "piece") && _)) = false
    rw [if_neg e2, if_neg e1, decide_eq_false e3]
    rfl
  · rw [(fork2_none f).1] at hb
    cases hb
def plain4 : List Str := ["start", "cancel", "set", "clear"]
theorem plain4_facts : ∀ w ∈ plain4, w ≠ "use" ∧ w ∈ plain6 ∧ w ≠ "take" ∧ w ≠ "give" ∧ w ≠ "piece" ∧ w ≠ "test" ∧ w ≠ "choose" := by decide +kernel
theorem fork_two (w : Str) (n : D) : forkOf (.tuple [.str w, n]) = none := rfl
theorem Lg.plain {a : Nat} {h : List Str} {w n : Str} (hw : w ∈ plain4) (hn : nameB n = true) : Lg a h [.tuple [.str w, .str n]] := by
  obtain ⟨e0, e6, e1, e2, e3, _, _⟩ := plain4_facts w hw
  have f := fork_two w (.str n)
  refine Lg.one ?_ (fun b hb => by rw [(fork_none f).2.1] at hb; cases hb) (fun t => ?_) (fun later ar t _ => ?_) fun ar _ b hb => ?_
  · rw [shaped2, decide_eq_true e0, decide_eq_true e6]
    exact hn
  · show (if w = "take" then _ else if w = "give" then _ else _) = t
    rw [if_neg e1, if_neg e2]
  · show (if w = "give" then _ else if w = "take" then _ else (decide (w = "piece") && _)) = false
    rw [if_neg e2, if_neg e1, decide_eq_false e3]
    rfl
  · rw [(fork2_none f).1] at hb
    cases hb
theorem Lg.piece {a : Nat} {h : List Str} {n : Str} {v : D} (hn : nameB n = true) (hi : innerP v = true) (free : n ∉ h) : Lg a h [.tuple [.str "piece", .str n, v]] := by
  have f : forkOf (.tuple [.str "piece", .str n, v]) = none := by cases v <;> rfl
  have e1 : ("piece" : Str) ≠ "take" := by decide +kernel
  have e2 : ("piece" : Str) ≠ "give" := by decide +kernel
  have e3 : ("piece" : Str) ≠ "use" := by decide +kernel
  have e4 : ("piece" : Str) ∉ plain6 := by decide +kernel
  refine Lg.one ?_ (fun b hb => by rw [(fork_none f).2.1] at hb; cases hb) (fun t => ?_) (fun later ar t hh => ?_) fun ar _ b hb => ?_
  · rw [shaped3, decide_eq_true e3, decide_eq_false e4, if_pos rfl, hi]
    show (true && !false && (nameB n && true)) = true
    rw [hn]
    rfl
  · show (if ("piece" : Str) = "take" then _ else if ("piece" : Str) = "give" then _ else _) = t
    rw [if_neg e1, if_neg e2]
  · show (if ("piece" : Str) = "give" then _ else if ("piece" : Str) = "take" then _ else (decide (("piece" : Str) = "piece") && decide (n ∈ ar ++ t))) = false
    rw [if_neg e2, if_neg e1, decide_eq_false fun z => free (hh n z)]
    rw [Bool.and_false]
  · rw [(fork2_none f).1] at hb
    cases hb
theorem Lg.choose {a : Nat} {h : List Str} {x y : List D} (ha : a < 3) (hx : Lg (a + 1) h x) (hy : Lg (a + 1) h y) : Lg a h [.tuple [.str "choose", .tuple x, .tuple y]] := by
  have f : forkOf (.tuple [.str "choose", .tuple x, .tuple y]) = some (x, y) := rfl
  have e1 : ("choose" : Str) ≠ "take" := by decide +kernel
  have e2 : ("choose" : Str) ≠ "give" := by decide +kernel
  have e3 : ("choose" : Str) ≠ "use" := by decide +kernel
  have e4 : ("choose" : Str) ∉ plain6 := by decide +kernel
  have e5 : ("choose" : Str) ≠ "piece" := by decide +kernel
  refine Lg.one ?_ (fun b hb => ?_) (fun t => ?_) (fun later ar t _ => ?_) fun ar hh b hb => ?_
  · rw [shaped3, decide_eq_true e3, decide_eq_false e4, if_neg e5, decide_eq_true ha]
    rfl
  · rw [(fork_some f).2.1] at hb
    exact (List.mem_append.mp hb).elim (hx.mis b) (hy.mis b)
  · show (if ("choose" : Str) = "take" then _ else if ("choose" : Str) = "give" then _ else _) = t
    rw [if_neg e1, if_neg e2]
  · show (if ("choose" : Str) = "give" then _ else if ("choose" : Str) = "take" then _ else (decide (("choose" : Str) = "piece") && _)) = false
    rw [if_neg e2, if_neg e1, decide_eq_false e5]
    rfl
  · rw [wlk_kids, kids_choose] at hb
    simp only [List.flatMap_cons, List.flatMap_nil, List.append_nil] at hb
    exact (List.mem_append.mp hb).elim (hx.sub ar hh b) (hy.sub ar hh b)
theorem Lg.test {a : Nat} {h : List Str} {n : Str} {x y : List D} (hn : nameB n = true) (ha : a < 3) (hx : Lg (a + 1) h x) (hy : Lg (a + 1) h y) : Lg a h [.tuple [.str "test", .str n, .tuple x, .tuple y]] := by
  have f : forkOf (.tuple [.str "test", .str n, .tuple x, .tuple y]) = some (x, y) := rfl
  have e1 : ("test" : Str) ≠ "take" := by decide +kernel
  have e2 : ("test" : Str) ≠ "give" := by decide +kernel
  have e3 : ("test" : Str) ≠ "use" := by decide +kernel
  have e4 : ("test" : Str) ∉ plain6 := by decide +kernel
  have e5 : ("test" : Str) ≠ "piece" := by decide +kernel
  refine Lg.one ?_ (fun b hb => ?_) (fun t => ?_) (fun later ar t _ => ?_) fun ar hh b hb => ?_
  · rw [shaped4, decide_eq_true e3, decide_eq_false e4, decide_eq_false e5, decide_eq_true ha]
    show (true && !false && !false && true && (decide (("test" : Str) = "test") && nameB n && true && true)) = true
    rw [hn]
    rfl
  · rw [(fork_some f).2.1] at hb
    exact (List.mem_append.mp hb).elim (hx.mis b) (hy.mis b)
  · show (if ("test" : Str) = "take" then _ else if ("test" : Str) = "give" then _ else _) = t
    rw [if_neg e1, if_neg e2]
  · show (if ("test" : Str) = "give" then _ else if ("test" : Str) = "take" then _ else (decide (("test" : Str) = "piece") && _)) = false
    rw [if_neg e2, if_neg e1, decide_eq_false e5]
    rfl
  · rw [wlk_kids, kids_test] at hb
    simp only [List.flatMap_cons, List.flatMap_nil, List.append_nil] at hb
    exact (List.mem_append.mp hb).elim (hx.sub ar hh b) (hy.sub ar hh b)
theorem eqv_give (n : Str) : PyData.eqv (giveD n) (giveD n) = true := by
  unfold giveD
  simp [PyData.eqv, PyData.eqvAll]
/-- a lock taken, what stands within, the lock given -/
theorem Lg.locked {a : Nat} {h : List Str} {l : Str} {ds : List D} (hl : nameB l = true) (free : l ∉ h) (p : Lg a (h ++ [l]) ds) : Lg a h ([(.tuple [.str "take", .str l] : D)] ++ ds ++ [(.tuple [.str "give", .str l] : D)]) := by
  have e2 : ("take" : Str) ≠ "give" := by decide +kernel
  have f1 := fork_two "take" (.str l)
  have f2 := fork_two "give" (.str l)
  have s1 : shaped (.tuple [.str "take", .str l]) a = true := by
    rw [shaped2, show nameD (.str l) = nameB l from rfl, hl]
    decide +kernel
  have s2 : shaped (.tuple [.str "give", .str l]) a = true := by
    rw [shaped2, show nameD (.str l) = nameB l from rfl, hl]
    decide +kernel
  refine ⟨fun b hb => ?_, fun t ar later hn hlt => ?_⟩
  · rw [misl_app, misl_app, misl_cons, misl_cons, s1, s2, misl_nil, (fork_none f1).2.1, (fork_none f2).2.1] at hb
    rcases List.mem_append.mp hb with hb | hb
    · rcases List.mem_append.mp hb with hb | hb
      · simpa using hb
      · exact p.mis b hb
    · simpa using hb
  · intro b hb
    rw [List.append_assoc, List.append_assoc, List.cons_append, List.nil_append, wl_cons] at hb
    have b1 : behindD (.tuple [.str "take", .str l]) t = t ++ [l] := by
      show (if ("take" : Str) = "take" then t ++ [l] else _) = _
      rw [if_pos rfl]
    have w1 : isWr (.tuple [.str "take", .str l]) (ds ++ ([(.tuple [.str "give", .str l] : D)] ++ later)) ar t = false := by
      show (if ("take" : Str) = "give" then _ else if ("take" : Str) = "take" then (if l ∈ ar ++ t then true else !((ds ++ ([(.tuple [.str "give", .str l] : D)] ++ later)).any fun z => PyData.eqv z (giveD l))) else _) = false
      rw [if_neg e2, if_pos rfl, if_neg fun z => free (hn l z)]
      have z : ((ds ++ ([(.tuple [.str "give", .str l] : D)] ++ later)).any fun z => PyData.eqv z (giveD l)) = true := List.any_eq_true.mpr ⟨giveD l, List.mem_append_right _ (List.mem_append_left _ (List.mem_singleton.mpr rfl)), eqv_give l⟩
      rw [z]
      rfl
    rw [b1, w1, (fork2_none f1).1, List.nil_append] at hb
    rcases List.mem_cons.mp hb with e | hb
    · exact e
    · refine p.wl (t ++ [l]) ar _ (fun n hm => ?_) (fun b' hb' => ?_) b hb
      · rw [← List.append_assoc] at hm
        rcases List.mem_append.mp hm with hm | hm
        · exact List.mem_append_left _ (hn n hm)
        · exact List.mem_append_right _ hm
      · rw [List.cons_append, List.nil_append, wl_cons] at hb'
        have b2 : behindD (.tuple [.str "give", .str l]) (t ++ [l]) = t := by
          show (if ("give" : Str) = "take" then _ else if ("give" : Str) = "give" then (t ++ [l]).dropLast else _) = _
          rw [if_neg (Ne.symm e2), if_pos rfl, List.dropLast_concat]
        have w2 : isWr (.tuple [.str "give", .str l]) later ar (t ++ [l]) = false := by
          show (if ("give" : Str) = "give" then !decide ((t ++ [l]).drop ((t ++ [l]).length - 1) = [l]) else _) = false
          rw [if_pos rfl, decide_eq_true]
          · rfl
          · rw [List.length_append]
            show (t ++ [l]).drop (t.length + 1 - 1) = [l]
            rw [Nat.add_sub_cancel, List.drop_left]
        rw [b2, w2, (fork2_none f2).1, List.nil_append] at hb'
        rcases List.mem_cons.mp hb' with e | e
        · exact e
        · exact hlt b' e
theorem no_idx {bs : List Bool} (h : ∀ b ∈ bs, b = false) : bs.findIdx? id = none := by
  rw [List.findIdx?_eq_none_iff]
  exact h
theorem Lg.fault {ds : List D} (p : Lg 0 [] ds) (ne : ds ≠ []) (h8 : (flat ds).length ≤ 8) : faultL ds = none := by
  unfold faultL
  rw [no_idx p.mis]
  have e : ds.isEmpty = false := by
    cases ds with
    | nil => exact absurd rfl ne
    | cons _ _ => rfl
  rw [e, no_idx (p.sub [] fun n hn => by cases hn)]
  simp only [Bool.false_eq_true, if_false]
  rw [if_neg (by omega)]
theorem inner_of {ds : List D} (p : Lg 0 [] ds) (ne : ds ≠ []) (h4 : (flat ds).length ≤ 4) (hw : (flat ds).all wordIn = true) : innerP (.tuple ds) = true := by
  have e : ds.isEmpty = false := by
    cases ds with
    | nil => exact absurd rfl ne
    | cons _ _ => rfl
  have c : (misl ds 0).contains true = false := by
    cases hc : (misl ds 0).contains true with
    | false => rfl
    | true =>
      have z := p.mis true (by simpa using hc)
      cases z
  rw [innerP, e, c, decide_eq_true h4, hw]
  rfl
end Tr

/-! P16 -/
namespace Tr
open PySem PySem.Spec PyProof.Rows L2 Rw
abbrev sNum : Stmt := top 40
theorem scN : FnScope ["_law_cell", "_law_salt", "_law_sizes", "_law_whole", "_law_left", "_law_result", "_law_k", "_law_one"] ["_law_cell", "_law_salt", "_law_sizes"] (defScope sNum) := ⟨rfl, rfl, rfl, by decide +kernel, rfl, by decide +kernel, by decide +kernel⟩
/-- what the numbers are: as many as the sizes, each below its size -/
def Drawn (sz ns : List Int) : Prop := ns.length = sz.length ∧ ∀ (i : Nat) (n : Int), sz[i]? = some n → ∃ x : Int, ns[i]? = some x ∧ 0 ≤ x ∧ x < n
def spNum (K : PySem.W.Frag) : Sp := fun vs H Q _ => ∃ (cell salt : Int) (a : Addr) (sz : List Int), vs = [.int cell, .int salt, .ref a] ∧ SqL K H a (sz.map V.int) ∧ sz.length ≤ 450 ∧ (∀ n ∈ sz, 1 ≤ n ∧ n < 2 ^ 200) ∧ 0 ≤ salt ∧ salt ≤ 1000000 ∧
  ∀ H' p ns, Same H H' → H p = none → H' p = some (.lst (ns.map V.int)) → Drawn sz ns → Q (.ref p) H'
theorem map_more (ns : List Int) (x : Int) : some (HO.lst (ns.map V.int ++ [V.int x])) = some (HO.lst ((ns ++ [x]).map V.int)) := by
  rw [List.map_append]
  rfl
theorem drawn_more {sz ns : List Int} {i : Nat} {n x : Int} (h : Drawn (sz.take i) ns) (hn : sz[i]? = some n) (x0 : 0 ≤ x) (x1 : x < n) : Drawn (sz.take (i + 1)) (ns ++ [x]) := by
  obtain ⟨h1, h2⟩ := h
  have hi : i < sz.length := by
    obtain ⟨z, _⟩ := List.getElem?_eq_some_iff.mp hn
    exact z
  have e : sz.take (i + 1) = sz.take i ++ [n] := by
    rw [List.take_add_one, hn]
    rfl
  have l1 : (sz.take i).length = i := by
    rw [List.length_take]
    omega
  rw [e]
  refine ⟨by rw [List.length_append, List.length_append, h1]; rfl, fun j m hm => ?_⟩
  by_cases hj : j < i
  · rw [List.getElem?_append_left (by omega)] at hm
    obtain ⟨y, y1, y2⟩ := h2 j m hm
    exact ⟨y, by rw [List.getElem?_append_left (by omega)]; exact y1, y2⟩
  · rw [List.getElem?_append_right (by omega), l1] at hm
    have ej : j = i := by
      obtain ⟨z, _⟩ := List.getElem?_eq_some_iff.mp hm
      simp at z
      omega
    subst ej
    rw [Nat.sub_self] at hm
    have em : n = m := Option.some.inj hm
    subst em
    exact ⟨x, by rw [List.getElem?_append_right (by omega), h1, l1, Nat.sub_self]; rfl, x0, x1⟩
section
variable {P : Program} {w : World} {K : PySem.W.Frag} {mg : Str → Option Value} {base : Heap}
theorem ok_num {f : Addr} {fd : FuncData} {k : Nat} (F : Fun K "_law_numbers" "_law_numbers" sNum f fd) (m_max : mg "max" = none) (m_range : mg "range" = none) (m_len : mg "len" = none) :
    FnOk P w K mg base CX0 (k + 1) f fd ["_law_cell", "_law_salt", "_law_sizes"] (spNum K) := by
  refine F.ok scN (fun vs H Q E h => ?_) (fun cdv A outer s H vs Q E hr h => ?_)
  · obtain ⟨c, s, a, sz, rfl, _⟩ := h
    rfl
  · obtain ⟨cell, salt, a, sz, rfl, hS, hlen, hsz, hs0, hs1, q⟩ := h
    refine ⟨_, (pss_cons (ps_set (i := 3) scN.nd rfl (.inl rfl) (pe_callB (call_max2 rfl) (by rfl) m_max (by decide +kernel) (pa_cons (pv 0) (pa_cons (pe_op op_sub (pe_un un_neg pe_int) (pv 0)) pa_nil))))
       (pss_cons (ps_set (i := 4) scN.nd rfl (.inl rfl) (pv 3))
       (pss_cons (ps_set (i := 5) scN.nd rfl (.inl rfl) (pe_lst pa_nil))
       (pss_cons (ps_for PassesOwn.never rfl (pi_range1 rfl m_range (pa_cons (pe_callB call_len_seq (by rfl) m_len PySem.boot_len (pa_cons (pv 2) pa_nil)) pa_nil)) (pg_name (i := 6) scN.nd rfl (.inl rfl))
       (pss_one (ps_if (PW.pt (pw_and (pt_cmpR op_ge (pv 3) (pe_op op_pow pe_int pe_int) (nomark _)) (pw_and1 (pt_cmpR op_gt (pv 4) pe_int (nomark _)))))
       (pss_cons (ps_expr (pe_bm PySem.F.plainAttrs_list PySem.F.slot_list_append PySem.F.type_list_append mt_append (pv 5) (pa_cons (pe_op op_modN (pv 4) (pe_ix ix_list (pv 2) (pv 6) (fun _ _ => rfl))) pa_nil)))
       (pss_one (ps_set (i := 4) scN.nd rfl (.inl rfl) (pe_op op_fdivW (pv 4) (pe_ix ix_list (pv 2) (pv 6) (fun _ _ => rfl))))))
       (pss_cons (ps_set (i := 7) scN.nd rfl (.inl rfl) (pe_op op_mod (pe_op op_pow (pe_op op_add (pe_op op_add (pe_op op_mod (pv 3) pe_int) (pe_op op_mul pe_int (pv 1))) pe_int) pe_int) pe_int))
       (pss_cons (ps_set (i := 7) scN.nd rfl (.inl rfl) (pe_op op_mod (pe_op op_mul (pe_op op_add (pv 7) (pe_op op_mul pe_int (pe_op op_add (pv 6) pe_int))) (pe_op op_add (pv 6) pe_int)) pe_int))
       (pss_cons (ps_set (i := 7) scN.nd rfl (.inl rfl) (pe_op op_mod (pe_op op_mul (pe_op op_mod (pe_op op_pow (pv 7) pe_int) pe_int) pe_int) pe_int))
       (pss_one (ps_expr (pe_bm PySem.F.plainAttrs_list PySem.F.slot_list_append PySem.F.type_list_append mt_append (pv 5) (pa_cons (pe_op op_modN (pe_op op_fdiv (pv 7) pe_int) (pe_ix ix_list (pv 2) (pv 6) (fun _ _ => rfl))) pa_nil))))))))))
       (pss_one (ps_ret (pv 5))))))), ?_⟩
    -- whole
    refine ⟨_, rfl, _, rfl, _, rfl, _, _, rfl, rfl, _, _, rfl, ?_⟩
    generalize hwh : (if -1 - cell > cell then -1 - cell else cell) = whole
    -- left
    refine ⟨_, rfl, ?_⟩
    -- result
    refine ⟨Nat.zero_le _, fun o no => ?_⟩
    have s1 : Same H (upd H o (.lst [])) := same_upd no
    -- range(len(sizes))
    refine ⟨_, rfl, a, _, rfl, .inl (s1.seq hS), _, rfl, ?_, ?_, ?_⟩
    · omega
    · rw [List.length_map]; omega
    have hw : 0 ≤ whole := by
      rw [← hwh]
      split <;> omega
    refine for_range (lo := 0) (n := (((sz.map V.int).length : Nat) : Int).toNat)
      (fun i σ H' => ∃ (left : Int) (ns : List Int) (v6 v7 : Option V), σ = [some (.int cell), some (.int salt), some (.ref a), some (.int whole), some (.int left), some (.ref o), v6, v7] ∧ 0 ≤ left ∧ Same H H' ∧
        H' o = some (.lst (ns.map V.int)) ∧ Drawn (sz.take i) ns)
      ⟨whole, [], none, none, rfl, hw, s1, upd_same, rfl, fun i n e => by simp at e⟩ ?_ ?_
    · rintro i σ H' hi ⟨left, ns, v6, v7, rfl, hl, sm, ho, hd⟩
      have hi' : i < sz.length := by
        rw [List.length_map] at hi
        omega
      have hSi : SqL K H' a (sz.map V.int) := sm.seq hS
      obtain ⟨n, hn⟩ : ∃ n, sz[i]? = some n := ⟨_, List.getElem?_eq_getElem hi'⟩
      obtain ⟨n1, n2⟩ := hsz n (List.mem_of_getElem? hn)
      have hat : atI (sz.map V.int) ((0 : Int) + i) = some (V.int n) := by
        rw [Int.zero_add]
        refine atI_nat ?_
        rw [List.getElem?_map, hn]
        rfl
      have more : ∀ x, 0 ≤ x → x < n → Drawn (sz.take (i + 1)) (ns ++ [x]) := fun x x0 x1 => drawn_more hd hn x0 x1
      have nsl : ns.length = i := by
        have z := hd.1
        rw [List.length_take] at z
        omega
      have room : (ns.map V.int).length < sizeLine := by
        rw [List.length_map]
        exact small1000 (by omega)
      have stay : ∀ u, Same H (upd H' o u) := fun u b z e => by
        rw [upd_ne (ne_of_none e no)]
        exact sm b z e
      -- whole >= 10 ** 18 and left > 0
      refine ⟨_, rfl, _, _, rfl, rfl, ⟨by decide, by decide, by decide⟩, _, _, rfl, rfl, _, rfl, ?_⟩
      refine ite2 (fun c1 => ?_) (fun c1 => ?_)
      · refine ⟨_, rfl, _, _, rfl, rfl, _, rfl, ite2 (fun c2 => ?_) (fun c2 => ?_)⟩
        · refine ⟨_, rfl, .inl ⟨rfl, _, .inl (.inl ho)⟩, _, rfl, _, rfl, _, rfl, a, _, _, _, rfl, rfl, hSi, hat, _, _, rfl, rfl, (by omega), o, _, _, rfl, rfl, ho, room, ?_⟩
          refine ⟨_, rfl, _, rfl, _, rfl, a, _, _, _, rfl, rfl, (stay _).seq hS, hat, _, _, rfl, rfl, wide_div (by omega) (b := 200) (by omega) (by decide) (by decide), ?_⟩
          exact ⟨left / n, _, _, _, rfl, Int.ediv_nonneg hl (by omega), stay _, by rw [upd_same, map_more], more _ (Int.fmod_nonneg_of_pos _ (by omega)) (Int.fmod_lt_of_pos _ (by omega))⟩
        · refine ⟨_, rfl, _, _, rfl, rfl, (by show (0 : Int) < 2147483629; decide), _, rfl, _, _, rfl, rfl, .inl ⟨by decide, by decide⟩, _, _, rfl, rfl, _, _, rfl, rfl, _, _, rfl, rfl, ⟨by decide, by decide, by omega⟩, _, _, rfl, rfl, (by show (0 : Int) < 2147483647; decide), ?_⟩
          refine ⟨_, rfl, _, rfl, _, _, rfl, rfl, _, _, rfl, rfl, .inl ⟨by decide, by decide⟩, _, _, rfl, rfl, _, rfl, _, _, rfl, rfl, _, _, rfl, rfl, .inr ⟨by omega, by omega⟩, _, _, rfl, rfl, (by show (0 : Int) < 2147483629; decide), ?_⟩
          refine ⟨_, rfl, _, _, rfl, rfl, ⟨by decide, by decide, by omega⟩, _, _, rfl, rfl, (by show (0 : Int) < 2147483647; decide), _, _, rfl, rfl, .inr ⟨by decide, by decide⟩, _, _, rfl, rfl, (by show (0 : Int) < 2147483629; decide), ?_⟩
          refine ⟨_, rfl, .inl ⟨rfl, _, .inl (.inl ho)⟩, _, rfl, _, _, rfl, rfl, ⟨by decide, by decide⟩, _, rfl, _, rfl, a, _, _, _, rfl, rfl, hSi, hat, _, _, rfl, rfl, (by omega), o, _, _, rfl, rfl, ho, room, ?_⟩
          exact ⟨left, _, _, _, rfl, hl, stay _, by rw [upd_same, map_more], more _ (Int.fmod_nonneg_of_pos _ (by omega)) (Int.fmod_lt_of_pos _ (by omega))⟩
      · refine ⟨_, rfl, _, _, rfl, rfl, (by show (0 : Int) < 2147483629; decide), _, rfl, _, _, rfl, rfl, .inl ⟨by decide, by decide⟩, _, _, rfl, rfl, _, _, rfl, rfl, _, _, rfl, rfl, ⟨by decide, by decide, by omega⟩, _, _, rfl, rfl, (by show (0 : Int) < 2147483647; decide), ?_⟩
        refine ⟨_, rfl, _, rfl, _, _, rfl, rfl, _, _, rfl, rfl, .inl ⟨by decide, by decide⟩, _, _, rfl, rfl, _, rfl, _, _, rfl, rfl, _, _, rfl, rfl, .inr ⟨by omega, by omega⟩, _, _, rfl, rfl, (by show (0 : Int) < 2147483629; decide), ?_⟩
        refine ⟨_, rfl, _, _, rfl, rfl, ⟨by decide, by decide, by omega⟩, _, _, rfl, rfl, (by show (0 : Int) < 2147483647; decide), _, _, rfl, rfl, .inr ⟨by decide, by decide⟩, _, _, rfl, rfl, (by show (0 : Int) < 2147483629; decide), ?_⟩
        refine ⟨_, rfl, .inl ⟨rfl, _, .inl (.inl ho)⟩, _, rfl, _, _, rfl, rfl, ⟨by decide, by decide⟩, _, rfl, _, rfl, a, _, _, _, rfl, rfl, hSi, hat, _, _, rfl, rfl, (by omega), o, _, _, rfl, rfl, ho, room, ?_⟩
        exact ⟨left, _, _, _, rfl, hl, stay _, by rw [upd_same, map_more], more _ (Int.fmod_nonneg_of_pos _ (by omega)) (Int.fmod_lt_of_pos _ (by omega))⟩
    · rintro σ H' ⟨left, ns, v6, v7, rfl, hl, sm, ho, hd⟩
      have e : (((sz.map V.int).length : Nat) : Int).toNat = sz.length := by
        rw [List.length_map]
        omega
      rw [e, List.take_length] at hd
      exact ⟨_, rfl, q H' o ns sm no ho hd⟩
end

def spPool4 (K : PySem.W.Frag) : Sp := fun vs H Q _ => ∃ (cell salt many : Int), vs = [.int cell, .int salt, .int many] ∧ 0 ≤ salt ∧ salt ≤ 1000000 ∧ 0 ≤ many ∧ many ≤ 420 ∧ ∀ H' o q, Same H H' → H o = none → PoolAt H' o q → Q (.ref o) H'
section
variable {P : Program} {w : World} {K : PySem.W.Frag} {mg : Str → Option Value} {base : Heap}
abbrev sPool : Stmt := top 41
theorem scPool : FnScope ["_law_cell", "_law_salt", "_law_many_here"] ["_law_cell", "_law_salt", "_law_many_here"] (defScope sPool) := ⟨rfl, rfl, rfl, by decide +kernel, rfl, by decide +kernel, by decide +kernel⟩
theorem ok_pool {f fN : Addr} {fd fdN : FuncData} (F : Fun K "_law_pool" "_law_pool" sPool f fd) (GN : FnOk P w K mg base CX0 1 fN fdN ["_law_cell", "_law_salt", "_law_sizes"] (spNum K)) (TN : Called K mg "_law_numbers" ["_law_cell", "_law_salt", "_law_sizes"] fN fdN) :
    FnOk P w K mg base CX0 2 f fd ["_law_cell", "_law_salt", "_law_many_here"] (spPool4 K) := by
  refine F.ok scPool (fun vs H Q E h => ?_) (fun cdv A outer s H vs Q E hr h => ?_)
  · obtain ⟨cell, salt, many, rfl, _⟩ := h
    rfl
  · obtain ⟨cell, salt, many, rfl, h1, h2, h3, h4, q⟩ := h
    refine ⟨_, (pss_one (ps_ret (pe_lst (pa_cons (pe_call GN (hr.mono (by first | decide | omega)) rfl TN.1 TN.2.1 TN.2.2 .nil pass0 (pa_cons (pv 0) (pa_cons (pv 1) (pa_cons (pe_op op_rep (pe_lst (pa_cons pe_int pa_nil)) (pv 2)) pa_nil)))) (pa_cons pe_int pa_nil))))), ?_⟩
    refine ⟨_, rfl, _, rfl, by show 1 ≤ sizeLine; decide, fun z nz => ?_⟩
    have s1 := same_upd (o := HO.lst [V.int 420]) nz
    refine ⟨_, rfl, z, many, _, rfl, rfl, upd_same, by omega, by omega, ?_, fun y ny => ?_⟩
    · rw [sizeLine_eq]
      show 1 * many.toNat ≤ _
      omega
    have e0 : (List.replicate many.toNat [V.int 420]).flatten = (List.replicate many.toNat (420 : Int)).map V.int := by
      rw [List.map_replicate]
      induction many.toNat with
      | zero => rfl
      | succ n ih => rw [List.replicate_succ, List.replicate_succ, List.flatten_cons, ih]; rfl
    rw [e0]
    have s2 := same_upd (o := HO.lst ((List.replicate many.toNat (420 : Int)).map V.int)) ny
    refine ⟨cell, salt, y, _, rfl, SqL.of upd_same, by rw [List.length_replicate]; omega, fun n hn => ?_, h1, h2, fun H' p ns s3 _ hp dr => ?_⟩
    · rw [List.eq_of_mem_replicate hn]
      exact ⟨by decide, by decide⟩
    refine ⟨by show 2 ≤ sizeLine; decide, fun o no => ?_⟩
    have s4 := same_upd (o := HO.lst [V.ref p, V.int 0]) no
    have st := ((s1.trans s2).trans s3)
    have np : p ≠ o := ne_of_none hp no
    refine q _ o p (st.trans s4) (st.free no) ⟨0, ns, upd_same, np, s4 _ _ hp, ?_, fun n hn => ?_⟩
    · rw [dr.1, List.length_replicate]
      omega
    · obtain ⟨i, hi⟩ := List.getElem?_of_mem hn
      have hi2 : i < ns.length := (List.getElem?_eq_some_iff.mp hi).1
      have hi3 : i < (List.replicate many.toNat (420 : Int)).length := by rw [← dr.1]; exact hi2
      obtain ⟨x, x1, x2, x3⟩ := dr.2 i 420 (by rw [List.getElem?_eq_getElem hi3, List.getElem_replicate])
      rw [hi] at x1
      cases x1
      exact ⟨x2, by omega⟩
abbrev sDraw : Stmt := top 42
theorem scDraw : FnScope ["_law_pool_here", "_law_many_here", "_law_at_here"] ["_law_pool_here", "_law_many_here"] (defScope sDraw) := ⟨rfl, rfl, rfl, by decide +kernel, rfl, by decide +kernel, by decide +kernel⟩
theorem ok_draw {f : Addr} {fd : FuncData} (F : Fun K "_law_draw" "_law_draw" sDraw f fd) (m_len : mg "len" = none) (m_int : mg "int" = none) : FnOk P w K mg base CX0 1 f fd ["_law_pool_here", "_law_many_here"] (spDraw K) := by
  refine F.ok scDraw (fun vs H Q E h => ?_) (fun cdv A outer s H vs Q E hr h => ?_)
  · obtain ⟨o, q, many, rfl, _⟩ := h
    rfl
  · obtain ⟨o, p, many, rfl, ⟨at_, ns, ho, np, hp, hl, hn⟩, m1, m2, q⟩ := h
    refine ⟨_, (pss_cons (ps_set (i := 2) scDraw.nd rfl (.inl rfl) (pe_ix (ix_listK (K := K) rfl) (pv 0) pe_int (fun _ _ => rfl)))
       (pss_cons (ps_asg (pe_op op_add (pv 2) pe_int) (pg_sub (pv 0) pe_int set_list))
       (pss_one (ps_ret (pe_ifExp (pt_cmpR op_lt (pv 2) (pe_callB (call_len_K (K := K) rfl) (by rfl) m_len PySem.boot_len (pa_cons (pe_ix (ix_listK (K := K) rfl) (pv 0) pe_int (fun _ _ => rfl)) pa_nil)) (nomark _))
       (pe_op op_modN (pe_callTy call_int1 (by rfl) m_int (by decide +kernel) (pa_cons (pe_ix (ix_listK (K := K) rfl) (pe_ix (ix_listK (K := K) rfl) (pv 0) pe_int (fun _ _ => rfl)) (pv 2) (fun _ _ => rfl)) pa_nil)) (pv 1))
       pe_int))))), ?_⟩
    refine ⟨_, rfl, o, _, _, _, rfl, rfl, SqL.of ho, rfl, ?_⟩
    refine ⟨_, rfl, _, _, rfl, rfl, _, rfl, o, _, 1, 1, rfl, rfl, ho, rfl, ?_⟩
    have e1 : (upd H o (.lst ([V.ref p, V.int (at_ : Nat)].set 1 (.int ((at_ : Int) + 1))))) o = some (.lst [.ref p, .int ((at_ + 1 : Nat) : Int)]) := upd_same
    have b1 : SameBut o H (upd H o (.lst ([V.ref p, V.int (at_ : Nat)].set 1 (.int ((at_ : Int) + 1))))) := but_upd
    generalize upd H o (.lst ([V.ref p, V.int (at_ : Nat)].set 1 (.int ((at_ : Int) + 1)))) = H1 at e1 b1
    have hp1 := b1 _ _ np hp
    have P1 : PoolAt H1 o p := ⟨at_ + 1, ns, e1, np, hp1, hl, hn⟩
    refine ⟨_, rfl, _, rfl, o, _, _, _, rfl, rfl, SqL.of e1, rfl, p, _, rfl, .inl (SqL.of hp1), _, _, rfl, rfl, _, rfl, ?_⟩
    by_cases h : ((at_ : Nat) : Int) < ((ns.map V.int).length : Nat)
    · rw [decide_eq_true h]
      refine iteT ?_
      rw [List.length_map] at h
      have hi : at_ < ns.length := by omega
      have hx : (ns.map V.int)[at_]? = some (V.int ns[at_]) := by rw [List.getElem?_map, List.getElem?_eq_getElem hi]; rfl
      refine ⟨_, rfl, o, _, _, _, rfl, rfl, SqL.of e1, rfl, _, rfl, p, _, _, _, rfl, rfl, SqL.of hp1, atI_nat hx, ?_⟩
      refine .inl ⟨_, rfl, _, rfl, _, _, rfl, rfl, by omega, ?_⟩
      exact q H1 _ b1 P1 (Int.fmod_nonneg_of_pos _ (by omega)) (Int.fmod_lt_of_pos _ (by omega))
    · rw [decide_eq_false h]
      exact iteF (q H1 0 b1 P1 (Int.le_refl _) (by omega))
abbrev sPick : Stmt := top 43
theorem scPick : FnScope ["_law_pool_here", "_law_some_here"] ["_law_pool_here", "_law_some_here"] (defScope sPick) := ⟨rfl, rfl, rfl, by decide +kernel, rfl, by decide +kernel, by decide +kernel⟩
theorem ok_pick {f fD : Addr} {fd fdD : FuncData} (F : Fun K "_law_pick" "_law_pick" sPick f fd) (GD : FnOk P w K mg base CX0 1 fD fdD ["_law_pool_here", "_law_many_here"] (spDraw K)) (TD : Called K mg "_law_draw" ["_law_pool_here", "_law_many_here"] fD fdD) (m_len : mg "len" = none) : FnOk P w K mg base CX0 2 f fd ["_law_pool_here", "_law_some_here"] (spPick K) := by
  refine F.ok scPick (fun vs H Q E h => ?_) (fun cdv A outer s H vs Q E hr h => ?_)
  · obtain ⟨o, q, l, xs, rfl, _⟩ := h
    rfl
  · obtain ⟨o, pq, l, xs, rfl, hp, n, hx, ne, hz, q⟩ := h
    refine ⟨_, (pss_one (ps_ret (pe_ix (ix_listK (K := K) rfl) (pv 1) (pe_call GD (hr.mono (by first | decide | omega)) rfl TD.1 TD.2.1 TD.2.2 .nil pass0 (pa_cons (pv 0) (pa_cons (pe_callB (call_len_K (K := K) rfl) (by rfl) m_len PySem.boot_len (pa_cons (pv 1) pa_nil)) pa_nil))) (fun _ _ => rfl)))), ?_⟩
    have hpos : 0 < xs.length := List.length_pos_iff.mpr ne
    refine ⟨_, rfl, _, rfl, _, rfl, l, xs, rfl, .inl hx, o, pq, _, rfl, hp, by omega, by omega, fun H' i b hp' i0 i1 => ?_⟩
    have hi : i.toNat < xs.length := by omega
    refine ⟨l, xs, i, xs[i.toNat], rfl, rfl, Rw.sqL_but b n hx, ?_, q H' _ b hp' (List.getElem_mem hi)⟩
    have e : i = ((i.toNat : Nat) : Int) := by omega
    have z := atI_nat (xs := xs) (List.getElem?_eq_getElem hi)
    rw [← e] at z
    exact z
end
end Tr

/-! K2 -/
/-! ### what is drawn: plain items, those in pieces -/
namespace Tr
open PySem PySem.Spec PyProof.Rows L2 Rw
structure It (b c : Nat) (d : D) : Prop where
  good : goodD d = true
  dep : d.depth ≤ b
  cnt : cntD d ≤ c
structure Its (b c : Nat) (ds : List D) : Prop where
  good : goodAll ds = true
  dep : PyData.depthAll ds ≤ b
  cnt : cntAll ds ≤ c
theorem Its.nil : Its 0 0 [] := ⟨by rw [goodAll], by rw [PyData.depthAll]; exact Nat.zero_le _, by rw [cntAll]; exact Nat.zero_le _⟩
theorem It.mono {b c b' c' : Nat} {d : D} (h : It b c d) (e1 : b ≤ b' := by decide) (e2 : c ≤ c' := by decide) : It b' c' d := ⟨h.good, Nat.le_trans h.dep e1, Nat.le_trans h.cnt e2⟩
theorem Its.mono {b c b' c' : Nat} {d : List D} (h : Its b c d) (e1 : b ≤ b' := by decide) (e2 : c ≤ c' := by decide) : Its b' c' d := ⟨h.good, Nat.le_trans h.dep e1, Nat.le_trans h.cnt e2⟩
theorem Its.cons {b1 b2 c1 c2 : Nat} {d : D} {ds : List D} (h : It b1 c1 d) (t : Its b2 c2 ds) : Its (max b1 b2) (c1 + c2) (d :: ds) := by
  obtain ⟨a1, a2, a3⟩ := h
  obtain ⟨d1, d2, d3⟩ := t
  refine ⟨?_, ?_, ?_⟩
  · rw [goodAll, a1, d1]; rfl
  · rw [PyData.depthAll]; omega
  · rw [cntAll]; omega
theorem Its.app {b b1 b2 c1 c2 c : Nat} : ∀ {as bs : List D}, Its b1 c1 as → Its b2 c2 bs → b1 ≤ b → b2 ≤ b → c1 + c2 ≤ c → Its b c (as ++ bs) := by
  intro as bs h t e1 e2 e
  have go : ∀ as : List D, goodAll as = true → goodAll (as ++ bs) = true ∧ PyData.depthAll (as ++ bs) ≤ max (PyData.depthAll as) (PyData.depthAll bs) ∧ cntAll (as ++ bs) = cntAll as + cntAll bs := by
    intro as
    induction as with
    | nil => intro _; exact ⟨t.good, by rw [List.nil_append]; exact Nat.le_max_right _ _, by rw [List.nil_append, cntAll]; omega⟩
    | cons a r ih =>
      intro g
      rw [goodAll, Bool.and_eq_true] at g
      obtain ⟨i1, i2, i3⟩ := ih g.2
      rw [List.cons_append, goodAll, g.1, i1, PyData.depthAll, PyData.depthAll, cntAll, cntAll, i3]
      exact ⟨rfl, by omega, by omega⟩
  obtain ⟨g1, g2, g3⟩ := go as h.good
  have h1 := h.dep
  have h2 := t.dep
  have h3 := h.cnt
  have h4 := t.cnt
  exact ⟨g1, by omega, by omega⟩
theorem It.tup {b c : Nat} {ds : List D} (h : Its b c ds) : It (b + 1) (c + 1) (.tuple ds) := by
  obtain ⟨a1, a2, a3⟩ := h
  exact ⟨by rw [goodD]; exact a1, by rw [PyData.depth]; omega, by rw [cntD]; omega⟩
theorem It.str {n : Str} (h : goodD (.str n) = true) : It 0 1 (.str n) := ⟨h, by simp [PyData.depth], by simp [cntD]⟩
theorem Its.at {b c : Nat} {ds : List D} {d : D} (h : Its b c ds) (m : d ∈ ds) : It b c d := by
  induction ds with
  | nil => cases m
  | cons a r ih =>
    obtain ⟨a1, a2, a3⟩ := h
    rw [goodAll, Bool.and_eq_true] at a1
    rw [PyData.depthAll] at a2
    rw [cntAll] at a3
    cases m with
    | head => exact ⟨a1.1, by omega, by omega⟩
    | tail _ m => exact ih ⟨a1.2, by omega, by omega⟩ m
theorem Its.fits {b c : Nat} {ds : List D} (h : Its b c ds) (e : c ≤ 60000) {n : Nat} (e2 : b < n) : Fits n ds := ⟨h.good, Nat.lt_of_le_of_lt h.dep e2, Nat.le_trans h.cnt e⟩
theorem It.fits {b c : Nat} {d : D} (h : It b c d) (e : c ≤ 60000) {n : Nat} (e2 : b < n) : FitD n d := ⟨h.good, Nat.lt_of_le_of_lt h.dep e2, Nat.le_trans h.cnt e⟩
structure Brs (s : Nat) (ds : List D) : Prop where
  len : (flat ds).length ≤ s
  br : ∀ e ∈ flat ds, BrOk e
theorem Brs.nil {s : Nat} : Brs s [] := ⟨by rw [flat]; exact Nat.zero_le _, fun e h => by rw [flat] at h; cases h⟩
theorem Brs.app {a b s : Nat} {x y : List D} (h : Brs a x) (t : Brs b y) (e : a + b ≤ s) : Brs s (x ++ y) := by
  refine ⟨?_, fun z hz => ?_⟩
  · have h1 := h.len
    have h2 := t.len
    rw [flat_app, List.length_append]
    omega
  · rw [flat_app] at hz
    exact (List.mem_append.mp hz).elim (h.br z) (t.br z)
theorem Brs.mono {a b : Nat} {x : List D} (h : Brs a x) (e : a ≤ b) : Brs b x := ⟨Nat.le_trans h.len e, h.br⟩
theorem Brs.leaf {d : D} (h : BrOk d) (k : kids d = []) : Brs 1 [d] := by
  have e : flat [d] = [d] := by rw [flat_one, flatk_kids, k]; rfl
  exact ⟨by rw [e]; exact Nat.le_refl _, fun z hz => by rw [e] at hz; rw [List.mem_singleton.mp hz]; exact h⟩
theorem Brs.fork {a b s : Nat} {d : D} {x y : List D} (h : BrOk d) (k : kids d = [x, y]) (hx : Brs a x) (hy : Brs b y) (e : a + b + 1 ≤ s) : Brs s [d] := by
  have f : flat [d] = d :: (flat x ++ flat y) := by rw [flat_one, flatk_kids, k]; simp
  have h1 := hx.len
  have h2 := hy.len
  refine ⟨by rw [f, List.length_cons, List.length_append]; omega, fun z hz => ?_⟩
  rw [f] at hz
  cases hz with
  | head => exact h
  | tail _ hz => exact (List.mem_append.mp hz).elim (hx.br z) (hy.br z)
theorem br_leaf {w : Str} {r : List D} (h1 : w ≠ "test") (h2 : w ≠ "choose") (h3 : w = "take" ∨ w = "give" ∨ w = "piece" → ∃ n r', r = .str n :: r') : Brs 1 [.tuple (.str w :: r)] :=
  Brs.leaf ⟨w, r, rfl, fun e => absurd e h1, fun e => absurd e h2, h3⟩ (kids_none h1 h2)
theorem br_test {n : D} {x y : List D} {a b s : Nat} (hx : Brs a x) (hy : Brs b y) (e : a + b + 1 ≤ s) : Brs s [.tuple [.str "test", n, .tuple x, .tuple y]] :=
  Brs.fork ⟨_, _, rfl, fun _ => ⟨n, x, y, rfl⟩, fun e => absurd e test_choose, fun e => absurd e (by decide +kernel)⟩ kids_test hx hy e
theorem br_choose {x y : List D} {a b s : Nat} (hx : Brs a x) (hy : Brs b y) (e : a + b + 1 ≤ s) : Brs s [.tuple [.str "choose", .tuple x, .tuple y]] :=
  Brs.fork ⟨_, _, rfl, fun e => absurd e.symm test_choose, fun _ => ⟨x, y, rfl⟩, fun e => absurd e (by decide +kernel)⟩ kids_choose hx hy e
/-- names in a list -/
def NamesAt (H0 : Hp) (nl : Addr) (ns : List Str) : Prop := H0 nl = some (.lst (ns.map V.str)) ∧ ns ≠ [] ∧ ns.length ≤ 100 ∧ ∀ n ∈ ns, goodD (.str n) = true ∧ nameB n = true
theorem NamesAt.same {H H' : Hp} {nl : Addr} {ns : List Str} (s : Same H H') (h : NamesAt H nl ns) : NamesAt H' nl ns := ⟨s _ _ h.1, h.2⟩
theorem newT {K : PySem.W.Frag} {H : Hp} {o qq t : Addr} {vs : List V} {ds : List D} (p : PoolAt H o qq) (nt : H t = none) (h : DpAll K (wh o H) vs ds) : Dp K (wh o (upd H t (.tup vs))) (.ref t) (.tuple ds) := .tup (SqT.of (wh_new p nt)) (h.same (wh_upd nt))
theorem pickN {K : PySem.W.Frag} {H : Hp} {o qq nl : Addr} {ns : List Str} {Q : VK} (p : PoolAt H o qq) (hn : NamesAt (wh o H) nl ns) (q : ∀ H' n, SameBut o H H' → PoolAt H' o qq → NamesAt (wh o H') nl ns → n ∈ ns → (goodD (.str n) = true ∧ nameB n = true) → Q (.str n) H') (E : XK := fun _ _ _ => True) : spPick K [.ref o, .ref nl] H Q E := by
  refine ⟨o, qq, nl, _, rfl, p, wh_ne hn.1, SqL.of (wh_sub _ _ hn.1), ?_, ?_, fun H' x b p' hx => ?_⟩
  · intro e
    exact hn.2.1 (List.map_eq_nil_iff.mp e)
  · rw [List.length_map]
    have := hn.2.2.1
    omega
  · obtain ⟨n, mem, rfl⟩ := List.mem_map.mp hx
    exact q H' n b p' (hn.same (wh_but b)) mem (hn.2.2.2 n mem)
theorem drawN {K : PySem.W.Frag} {H : Hp} {o qq : Addr} {m : Int} {Q : VK} (p : PoolAt H o qq) (m1 : 1 ≤ m) (m2 : m ≤ 1000) (q : ∀ H' n, SameBut o H H' → PoolAt H' o qq → 0 ≤ n → n < m → Q (.int n) H') (E : XK := fun _ _ _ => True) : spDraw K [.ref o, .int m] H Q E := ⟨o, qq, m, rfl, p, m1, m2, q⟩
def wl6 : List Str := ["use", "start", "cancel", "set", "clear", "start"]
theorem wl6_good : ∀ w ∈ wl6, goodD (.str w) = true := by decide +kernel
theorem wl6_free : ∀ w ∈ wl6, w ≠ "test" ∧ w ≠ "choose" ∧ w ≠ "take" ∧ w ≠ "give" ∧ w ≠ "piece" := by decide +kernel
theorem wl6_four : ∀ w ∈ wl6, w ≠ "use" → w ∈ plain4 := by decide +kernel
def spPl (K : PySem.W.Frag) : Sp := fun vs H Q _ => ∃ (o qq nl : Addr) (ns : List Str), vs = [.ref o, .ref nl] ∧ PoolAt H o qq ∧ NamesAt (wh o H) nl ns ∧ ∀ H' v d, SameBut o H H' → PoolAt H' o qq → Dp K (wh o H') v d → It 1 3 d → Brs 1 [d] → (∀ a h, Lg a h [d]) → Q v H'
def spIr (K : PySem.W.Frag) : Sp := fun vs H Q _ => ∃ (o qq nl : Addr) (ns : List Str), vs = [.ref o, .ref nl] ∧ PoolAt H o qq ∧ NamesAt (wh o H) nl ns ∧ ∀ H' v d, SameBut o H H' → PoolAt H' o qq → Dp K (wh o H') v d → It 8 20 d → innerP d = true → Q v H'
theorem useG : goodD (.str "use") = true := by decide +kernel
theorem startG : goodD (.str "start") = true := by decide +kernel
theorem testG : goodD (.str "test") = true := by decide +kernel
section
variable {P : Program} {w : World} {K : PySem.W.Frag} {mg : Str → Option Value} {base : Heap}
abbrev sPl : Stmt := top 47
theorem scPl : FnScope ["_law_pool_here", "_law_names", "_law_word"] ["_law_pool_here", "_law_names"] (defScope sPl) := ⟨rfl, rfl, rfl, by decide +kernel, rfl, by decide +kernel, by decide +kernel⟩
theorem ok_pl {f fP : Addr} {fd fdP : FuncData} (F : Fun K "_law_plain" "_law_plain" sPl f fd) (GP : FnOk P w K mg base CX0 2 fP fdP ["_law_pool_here", "_law_some_here"] (spPick K)) (TP : Called K mg "_law_pick" ["_law_pool_here", "_law_some_here"] fP fdP) : FnOk P w K mg base CX0 3 f fd ["_law_pool_here", "_law_names"] (spPl K) := by
  refine F.ok scPl (fun vs H Q E h => ?_) (fun cdv A outer s H vs Q E hr h => ?_)
  · obtain ⟨o, qq, nl, ns, rfl, _⟩ := h
    rfl
  · obtain ⟨o, qq, nl, ns, rfl, hp, hn, q⟩ := h
    refine ⟨_, (pss_cons (ps_set (i := 2) scPl.nd rfl (.inl rfl) (pe_call GP (hr.mono (by first | decide | omega)) rfl TP.1 TP.2.1 TP.2.2 .nil pass0 (pa_cons (pv 0) (pa_cons (pe_lst (pa_cons pe_str (pa_cons pe_str (pa_cons pe_str (pa_cons pe_str (pa_cons pe_str (pa_cons pe_str pa_nil))))))) pa_nil))))
       (pss_one (ps_ret (pe_ifExp (pt_cmpR op_eq (pv 2) pe_str (nomark _))
       (pe_tup (pa_cons pe_str pa_nil))
       (pe_tup (pa_cons (pv 2) (pa_cons (pe_call GP (hr.mono (by first | decide | omega)) rfl TP.1 TP.2.1 TP.2.2 .nil pass0 (pa_cons (pv 0) (pa_cons (pv 1) pa_nil))) pa_nil))))))), ?_⟩
    refine ⟨_, rfl, by show 6 ≤ sizeLine; decide, fun l nw => ?_⟩
    have s0 := same_upd (o := HO.lst (wl6.map V.str)) nw
    refine ⟨o, qq, l, wl6.map V.str, rfl, pool_upd hp nw, pool_ne hp nw, SqL.of upd_same, by decide, by decide, fun H1 x b1 p1 hx => ?_⟩
    obtain ⟨wd, hw, rfl⟩ := List.mem_map.mp hx
    have b01 := (but_of s0).trans b1
    have hn1 := hn.same (wh_but b01)
    refine ⟨_, rfl, rfl, _, rfl, ?_⟩
    rw [Rw.dec_str]
    by_cases hu : wd = "use"
    · rw [decide_eq_true hu]
      refine iteT ⟨by show 1 ≤ sizeLine; decide, fun t nt => ?_⟩
      refine q _ _ _ (b01.trans (but_of (same_upd nt))) (pool_upd p1 nt) (newT p1 nt (.cons (.str _) .nil)) (It.mono (It.tup (Its.cons (It.str useG) Its.nil))) (br_leaf (by decide +kernel) (by decide +kernel) (fun e => absurd e (by decide +kernel))) (fun a h => Lg.use)
    · rw [decide_eq_false hu]
      refine iteF ⟨_, rfl, _, rfl, _, rfl, pickN p1 hn1 fun H2 n b2 p2 hn2 _ gn => ⟨by show 2 ≤ sizeLine; decide, fun t nt => ?_⟩⟩
      have fr := wl6_free wd hw
      refine q _ _ _ ((b01.trans b2).trans (but_of (same_upd nt))) (pool_upd p2 nt) (newT p2 nt (.cons (.str _) (.cons (.str _) .nil))) (It.mono (It.tup (Its.cons (It.str (wl6_good wd hw)) (Its.cons (It.str gn.1) Its.nil)))) (br_leaf fr.1 fr.2.1 (fun e => ?_)) (fun a h => Lg.plain (wl6_four wd hw hu) gn.2)
      exact e.elim (fun e => absurd e fr.2.2.1) fun e => e.elim (fun e => absurd e fr.2.2.2.1) fun e => absurd e fr.2.2.2.2
end
end Tr

/-! K3 -/
/-! ### what is drawn for a piece -/
namespace Tr
open PySem PySem.Spec PyProof.Rows L2 Rw
/-- what was got: new, the pool has moved on -/
structure In (k m : Nat) (d : D) : Prop where
  lg : ∀ (a : Nat) (h : List Str), a + k ≤ 3 → Lg a h [d]
  fl : (flat [d]).length ≤ m
  wi : (flat [d]).all wordIn = true
structure Ins (k m : Nat) (ds : List D) : Prop where
  lg : ∀ (a : Nat) (h : List Str), a + k ≤ 3 → Lg a h ds
  fl : (flat ds).length ≤ m
  wi : (flat ds).all wordIn = true
theorem Ins.nil : Ins 0 0 [] := ⟨fun _ _ _ => Lg.nil, by rw [flat]; exact Nat.le_refl _, by rw [flat]; rfl⟩
theorem Ins.cons {k1 m1 k2 m2 : Nat} {d : D} {ds : List D} (p : In k1 m1 d) (q : Ins k2 m2 ds) : Ins (max k1 k2) (m1 + m2) (d :: ds) := by
  have e : d :: ds = [d] ++ ds := rfl
  refine ⟨fun a h ha => ?_, ?_, ?_⟩
  · rw [e]
    exact (p.lg a h (by omega)).app (q.lg a h (by omega))
  · rw [e, flat_app, List.length_append]
    have := p.fl
    have := q.fl
    omega
  · rw [e, flat_app, List.all_append, p.wi, q.wi]
    rfl
theorem Ins.inner {k m : Nat} {ds : List D} (p : Ins k m ds) (hk : k ≤ 3) (hm : m ≤ 4) (ne : ds ≠ []) : innerP (.tuple ds) = true :=
  inner_of (p.lg 0 [] (by omega)) ne (Nat.le_trans p.fl hm) p.wi
theorem In.use : In 0 1 (.tuple [.str "use"]) := by
  have f : flat [.tuple [.str "use"]] = [.tuple [.str "use"]] := by rw [flat_one, (fork_none (d := .tuple [.str "use"]) rfl).1]
  exact ⟨fun _ _ _ => Lg.use, by rw [f]; exact Nat.le_refl _, by rw [f]; decide +kernel⟩
theorem In.start {n : Str} (hn : nameB n = true) : In 0 1 (.tuple [.str "start", .str n]) := by
  have f : flat [.tuple [.str "start", .str n]] = [.tuple [.str "start", .str n]] := by rw [flat_one, (fork_none (fork_two "start" (.str n))).1]
  refine ⟨fun _ _ _ => Lg.plain (by decide +kernel) hn, by rw [f]; exact Nat.le_refl _, ?_⟩
  rw [f]
  show (decide (("start" : Str) ∈ inner3) && true) = true
  decide +kernel
theorem In.test {k m : Nat} {n : Str} {x y : List D} (hn : nameB n = true) (p : Ins k m (x ++ y)) (hx : ∀ a h, a + k ≤ 3 → Lg a h x) (hy : ∀ a h, a + k ≤ 3 → Lg a h y) : In (k + 1) (m + 1) (.tuple [.str "test", .str n, .tuple x, .tuple y]) := by
  have f : flat [.tuple [.str "test", .str n, .tuple x, .tuple y]] = .tuple [.str "test", .str n, .tuple x, .tuple y] :: flat (x ++ y) := by
    rw [flat_one, flatk_kids, kids_test, flat_app]
    simp
  refine ⟨fun a h ha => Lg.test hn (by omega) (hx _ _ (by omega)) (hy _ _ (by omega)), ?_, ?_⟩
  · rw [f, List.length_cons]
    have := p.fl
    omega
  · rw [f, List.all_cons, p.wi]
    show (decide (("test" : Str) ∈ inner3) && true) = true
    decide +kernel
theorem In.left {k m : Nat} {n : Str} {d : D} (p : In k m d) (hn : nameB n = true) : In (k + 1) (m + 1) (.tuple [.str "test", .str n, .tuple [d], .tuple []]) :=
  In.test hn ⟨p.lg, p.fl, p.wi⟩ p.lg fun _ _ _ => Lg.nil
theorem In.right {k m : Nat} {n : Str} {d : D} (p : In k m d) (hn : nameB n = true) : In (k + 1) (m + 1) (.tuple [.str "test", .str n, .tuple [], .tuple [d]]) :=
  In.test hn ⟨p.lg, p.fl, p.wi⟩ (fun _ _ _ => Lg.nil) p.lg
structure Got (K : PySem.W.Frag) (o qq : Addr) (b c k m : Nat) (H : Hp) (v : V) (H' : Hp) : Prop where
  but : SameBut o H H'
  pool : PoolAt H' o qq
  ex : ∃ d, Dp K (wh o H') v d ∧ It b c d ∧ In k m d
section
variable {P : Program} {w : World} {K : PySem.W.Frag} {mg : Str → Option Value} {base : Heap}
abbrev sIr : Stmt := top 48
theorem scIr : FnScope ["_law_pool_here", "_law_names", "_law_one", "_law_way", "_law_deep"] ["_law_pool_here", "_law_names"] (defScope sIr) := ⟨rfl, rfl, rfl, by decide +kernel, rfl, by decide +kernel, by decide +kernel⟩
theorem ok_ir {f fP fD : Addr} {fd fdP fdD : FuncData} (F : Fun K "_law_inner" "_law_inner" sIr f fd) (GP : FnOk P w K mg base CX0 2 fP fdP ["_law_pool_here", "_law_some_here"] (spPick K)) (TP : Called K mg "_law_pick" ["_law_pool_here", "_law_some_here"] fP fdP)
    (GD : FnOk P w K mg base CX0 1 fD fdD ["_law_pool_here", "_law_many_here"] (spDraw K)) (TD : Called K mg "_law_draw" ["_law_pool_here", "_law_many_here"] fD fdD) : FnOk P w K mg base CX0 3 f fd ["_law_pool_here", "_law_names"] (spIr K) := by
  refine F.ok scIr (fun vs H Q E h => ?_) (fun cdv A outer s H vs Q E hr h => ?_)
  · obtain ⟨o, qq, nl, ns, rfl, _⟩ := h
    rfl
  · obtain ⟨o, qq, nl, ns, rfl, hp, hn, q⟩ := h
    refine ⟨_, (pss_cons (ps_set (i := 2) scIr.nd rfl (.inl rfl) (pe_ifExp (pt_cmpR op_gt (pe_call GD (hr.mono (by first | decide | omega)) rfl TD.1 TD.2.1 TD.2.2 .nil pass0 (pa_cons (pv 0) (pa_cons pe_int pa_nil))) pe_int (nomark _))
       (pe_tup (pa_cons pe_str (pa_cons (pe_call GP (hr.mono (by first | decide | omega)) rfl TP.1 TP.2.1 TP.2.2 .nil pass0 (pa_cons (pv 0) (pa_cons (pv 1) pa_nil))) pa_nil)))
       (pe_tup (pa_cons pe_str pa_nil))))
       (pss_cons (ps_set (i := 3) scIr.nd rfl (.inl rfl) (pe_call GD (hr.mono (by first | decide | omega)) rfl TD.1 TD.2.1 TD.2.2 .nil pass0 (pa_cons (pv 0) (pa_cons pe_int pa_nil))))
       (pss_cons (ps_if (pt_cmpR op_eq (pv 3) pe_int (nomark _))
       (pss_one (ps_ret (pe_tup (pa_cons (pv 2) pa_nil))))
       pss_nil)
       (pss_cons (ps_if (pt_cmpR op_eq (pv 3) pe_int (nomark _))
       (pss_one (ps_ret (pe_tup (pa_cons (pv 2) (pa_cons (pe_tup (pa_cons pe_str pa_nil)) (pa_cons (pe_tup (pa_cons pe_str (pa_cons (pe_call GP (hr.mono (by first | decide | omega)) rfl TP.1 TP.2.1 TP.2.2 .nil pass0 (pa_cons (pv 0) (pa_cons (pv 1) pa_nil))) pa_nil))) (pa_cons (pv 2) pa_nil)))))))
       pss_nil)
       (pss_cons (ps_set (i := 4) scIr.nd rfl (.inl rfl) (pe_ifExp (pt_cmpR op_lt (pv 3) pe_int (nomark _))
       (pe_tup (pa_cons pe_str (pa_cons (pe_call GP (hr.mono (by first | decide | omega)) rfl TP.1 TP.2.1 TP.2.2 .nil pass0 (pa_cons (pv 0) (pa_cons (pv 1) pa_nil))) (pa_cons (pe_tup (pa_cons (pv 2) pa_nil)) (pa_cons (pe_tup pa_nil) pa_nil)))))
       (pe_tup (pa_cons pe_str (pa_cons (pe_call GP (hr.mono (by first | decide | omega)) rfl TP.1 TP.2.1 TP.2.2 .nil pass0 (pa_cons (pv 0) (pa_cons (pv 1) pa_nil))) (pa_cons (pe_tup pa_nil) (pa_cons (pe_tup (pa_cons (pv 2) pa_nil)) pa_nil)))))))
       (pss_cons (ps_if (pt_cmpR op_eq (pv 3) pe_int (nomark _))
       (pss_one (ps_ret (pe_tup (pa_cons (pv 4) (pa_cons (pe_tup (pa_cons pe_str (pa_cons (pe_call GP (hr.mono (by first | decide | omega)) rfl TP.1 TP.2.1 TP.2.2 .nil pass0 (pa_cons (pv 0) (pa_cons (pv 1) pa_nil))) pa_nil))) pa_nil)))))
       pss_nil)
       (pss_cons (ps_set (i := 4) scIr.nd rfl (.inl rfl) (pe_tup (pa_cons pe_str (pa_cons (pe_call GP (hr.mono (by first | decide | omega)) rfl TP.1 TP.2.1 TP.2.2 .nil pass0 (pa_cons (pv 0) (pa_cons (pv 1) pa_nil))) (pa_cons (pe_tup pa_nil) (pa_cons (pe_tup (pa_cons (pv 4) pa_nil)) pa_nil))))))
       (pss_one (ps_ret (pe_tup (pa_cons (pe_tup (pa_cons pe_str (pa_cons (pe_call GP (hr.mono (by first | decide | omega)) rfl TP.1 TP.2.1 TP.2.2 .nil pass0 (pa_cons (pv 0) (pa_cons (pv 1) pa_nil))) (pa_cons (pe_tup (pa_cons (pv 4) pa_nil)) (pa_cons (pe_tup pa_nil) pa_nil))))) pa_nil))))))))))), ?_⟩
    refine seqS_in (asg_via (Got K o qq 1 3 0 1 H) (fun Qx hQ => ?_) (fun v1 H1 ⟨b1, p1, d1, hv1, i1, j1⟩ => name_in ?_))
    · refine ⟨_, rfl, o, qq, _, rfl, hp, by decide, by decide, fun H1 n b1 p1 n0 n1 => ⟨_, _, rfl, rfl, _, rfl, ite_any ?_ ?_⟩⟩
      · refine ⟨_, rfl, _, rfl, pickN p1 (hn.same (wh_but b1)) fun H2 n b2 p2 hn2 _ gn => ⟨by show 2 ≤ sizeLine; decide, fun t nt => hQ _ _ ?_⟩⟩
        exact ⟨(b1.trans b2).trans (but_of (same_upd nt)), pool_upd p2 nt, _, newT p2 nt (.cons (.str _) (.cons (.str _) .nil)), It.mono (It.tup (Its.cons (It.str startG) (Its.cons (It.str gn.1) Its.nil))), In.start gn.2⟩
      · refine ⟨by show 1 ≤ sizeLine; decide, fun t nt => hQ _ _ ?_⟩
        exact ⟨b1.trans (but_of (same_upd nt)), pool_upd p1 nt, _, newT p1 nt (.cons (.str _) .nil), It.mono (It.tup (Its.cons (It.str useG) Its.nil)), In.use⟩
    have hn1 := hn.same (wh_but b1)
    refine seqS_in ⟨_, rfl, o, qq, _, rfl, p1, by decide, by decide, fun H2 w b2 p2 w0 w5 => name_in ?_⟩
    have b12 := b1.trans b2
    have hn2 := hn1.same (wh_but b2)
    have hv2 := hv1.same (wh_but b2)
    refine seqS_in ⟨_, rfl, rfl, _, rfl, ite_any ?_ ?_⟩
    · refine ⟨_, rfl, by show 1 ≤ sizeLine; decide, fun t nt => q _ _ _ (b12.trans (but_of (same_upd nt))) (pool_upd p2 nt) (newT p2 nt (.cons hv2 .nil)) (It.mono (It.tup (Its.cons i1 Its.nil))) ((Ins.cons j1 Ins.nil).inner (by decide) (by decide) (by simp))⟩
    refine seqS_in ⟨_, rfl, rfl, _, rfl, ite_any ?_ ?_⟩
    · refine ⟨_, rfl, by show 1 ≤ sizeLine; decide, fun t nt => ?_⟩
      have s3 := same_upd (o := HO.tup [V.str "use"]) nt
      have p3 := pool_upd (x := HO.tup [V.str "use"]) p2 nt
      have u3 := newT (K := K) p2 nt (.cons (.str _) .nil : DpAll K (wh o H2) [V.str "use"] [.str "use"])
      refine ⟨_, rfl, _, rfl, pickN p3 (hn2.same (wh_but (but_of s3))) fun H4 n b4 p4 hn4 _ gn => ⟨by show 2 ≤ sizeLine; decide, fun t2 nt2 => ?_⟩⟩
      have b34 := (but_of s3).trans b4
      have s5 := same_upd (o := HO.tup [V.str "start", V.str n]) nt2
      have p5 := pool_upd (x := HO.tup [V.str "start", V.str n]) p4 nt2
      have w5 := wh_same (o := o) s5
      refine ⟨_, rfl, by show 4 ≤ sizeLine; decide, fun t4 nt4 => ?_⟩
      have hv5 := (hv2.same (wh_but b34)).same w5
      refine q _ _ _ (((b12.trans b34).trans (but_of s5)).trans (but_of (same_upd nt4))) (pool_upd p5 nt4) (newT p5 nt4 (.cons hv5 (.cons ((u3.same (wh_but b4)).same w5) (.cons (newT p4 nt2 (.cons (.str _) (.cons (.str _) .nil))) (.cons hv5 .nil)))))
        (It.mono (It.tup (Its.cons i1 (Its.cons (It.tup (Its.cons (It.str useG) Its.nil)) (Its.cons (It.tup (Its.cons (It.str startG) (Its.cons (It.str gn.1) Its.nil))) (Its.cons i1 Its.nil)))))) ((Ins.cons j1 (Ins.cons In.use (Ins.cons (In.start gn.2) (Ins.cons j1 Ins.nil)))).inner (by decide) (by decide) (by simp))
    dsimp only [tNext]
    refine seqS_in (asg_via (Got K o qq 3 8 1 2 H2) (fun Qx hQ => ?_) (fun v3 H3 ⟨b3, p3, d3, hv3, i3, j3⟩ => name_in ?_))
    · refine ⟨_, rfl, _, _, rfl, rfl, _, rfl, ite_any ?_ ?_⟩
      · refine ⟨_, rfl, _, rfl, pickN p2 hn2 fun H4 n b4 p4 hn4 _ gn => ⟨_, rfl, by show 1 ≤ sizeLine; decide, fun t nt => ⟨Nat.zero_le _, fun e ne => ⟨by show 4 ≤ sizeLine; decide, fun t4 nt4 => hQ _ _ ?_⟩⟩⟩⟩
        have s5 := same_upd (o := HO.tup [v1]) nt
        have p5 := pool_upd (x := HO.tup [v1]) p4 nt
        have h5 := newT p4 nt (.cons (hv2.same (wh_but b4)) .nil)
        have s6 := same_upd (o := HO.tup []) ne
        have p6 := pool_upd (x := HO.tup []) p5 ne
        have h6 := newT (K := K) p5 ne .nil
        exact ⟨b4.trans ((but_of s5).trans ((but_of s6).trans (but_of (same_upd nt4)))), pool_upd p6 nt4, _, newT p6 nt4 (.cons (.str _) (.cons (.str _) (.cons (h5.same (wh_same s6)) (.cons h6 .nil)))), It.mono (It.tup (Its.cons (It.str testG) (Its.cons (It.str gn.1) (Its.cons (It.tup (Its.cons i1 Its.nil)) (Its.cons (It.tup Its.nil) Its.nil))))), In.left j1 gn.2⟩
      · refine ⟨_, rfl, _, rfl, pickN p2 hn2 fun H4 n b4 p4 hn4 _ gn => ⟨Nat.zero_le _, fun e ne => ⟨_, rfl, by show 1 ≤ sizeLine; decide, fun t nt => ⟨by show 4 ≤ sizeLine; decide, fun t4 nt4 => hQ _ _ ?_⟩⟩⟩⟩
        have s5 := same_upd (o := HO.tup []) ne
        have p5 := pool_upd (x := HO.tup []) p4 ne
        have h5 := newT (K := K) p4 ne .nil
        have s6 := same_upd (o := HO.tup [v1]) nt
        have p6 := pool_upd (x := HO.tup [v1]) p5 nt
        have h6 := newT p5 nt (.cons ((hv2.same (wh_but b4)).same (wh_same s5)) .nil)
        exact ⟨b4.trans ((but_of s5).trans ((but_of s6).trans (but_of (same_upd nt4)))), pool_upd p6 nt4, _, newT p6 nt4 (.cons (.str _) (.cons (.str _) (.cons (h5.same (wh_same s6)) (.cons h6 .nil)))), It.mono (It.tup (Its.cons (It.str testG) (Its.cons (It.str gn.1) (Its.cons (It.tup Its.nil) (Its.cons (It.tup (Its.cons i1 Its.nil)) Its.nil))))), In.right j1 gn.2⟩
    have b13 := b12.trans b3
    have hn3 := hn2.same (wh_but b3)
    refine seqS_in ⟨_, rfl, rfl, _, rfl, ite_any ?_ ?_⟩
    · refine ⟨_, rfl, _, rfl, _, rfl, pickN p3 hn3 fun H4 n b4 p4 hn4 _ gn => ⟨by show 2 ≤ sizeLine; decide, fun t nt => ⟨by show 2 ≤ sizeLine; decide, fun t2 nt2 => ?_⟩⟩⟩
      have s5 := same_upd (o := HO.tup [V.str "start", V.str n]) nt
      have p5 := pool_upd (x := HO.tup [V.str "start", V.str n]) p4 nt
      refine q _ _ _ (b13.trans (b4.trans ((but_of s5).trans (but_of (same_upd nt2))))) (pool_upd p5 nt2) (newT p5 nt2 (.cons ((hv3.same (wh_but b4)).same (wh_same s5)) (.cons (newT p4 nt (.cons (.str _) (.cons (.str _) .nil))) .nil))) (It.mono (It.tup (Its.cons i3 (Its.cons (It.tup (Its.cons (It.str startG) (Its.cons (It.str gn.1) Its.nil))) Its.nil)))) ((Ins.cons j3 (Ins.cons (In.start gn.2) Ins.nil)).inner (by decide) (by decide) (by simp))
    dsimp only [tNext]
    refine seqS_in ⟨_, rfl, _, rfl, pickN p3 hn3 fun H4 n b4 p4 hn4 _ gn => ⟨Nat.zero_le _, fun e ne => ⟨_, rfl, by show 1 ≤ sizeLine; decide, fun t nt => ⟨by show 4 ≤ sizeLine; decide, fun t4 nt4 => name_in ?_⟩⟩⟩⟩
    have s5 := same_upd (o := HO.tup []) ne
    have p5 := pool_upd (x := HO.tup []) p4 ne
    have h5 := newT (K := K) p4 ne .nil
    have s6 := same_upd (o := HO.tup [v3]) nt
    have p6 := pool_upd (x := HO.tup [v3]) p5 nt
    have h6 := newT p5 nt (.cons ((hv3.same (wh_but b4)).same (wh_same s5)) .nil)
    have s7 := same_upd (o := HO.tup [V.str "test", V.str n, V.ref e, V.ref t]) nt4
    have p7 := pool_upd (x := HO.tup [V.str "test", V.str n, V.ref e, V.ref t]) p6 nt4
    have h7 := newT p6 nt4 (.cons (.str "test") (.cons (.str n) (.cons (h5.same (wh_same s6)) (.cons h6 .nil))))
    have i7 := It.tup (Its.cons (It.str testG) (Its.cons (It.str gn.1) (Its.cons (It.tup Its.nil) (Its.cons (It.tup (Its.cons i3 Its.nil)) Its.nil))))
    have b7 := b13.trans (b4.trans (but_of (s5.trans (s6.trans s7))))
    have hn7 := hn4.same (wh_same (s5.trans (s6.trans s7)))
    generalize upd (upd (upd H4 e (HO.tup [])) t (HO.tup [v3])) t4 (HO.tup [V.str "test", V.str n, V.ref e, V.ref t]) = H7 at p7 h7 b7 hn7
    refine ⟨_, rfl, _, rfl, pickN p7 hn7 fun H8 n8 b8 p8 hn8 _ gn8 => ⟨_, rfl, by show 1 ≤ sizeLine; decide, fun t nt => ⟨Nat.zero_le _, fun e ne => ⟨by show 4 ≤ sizeLine; decide, fun t4 nt4 => ⟨by show 1 ≤ sizeLine; decide, fun t5 nt5 => ?_⟩⟩⟩⟩⟩
    refine q _ _ _ (b7.trans (b8.trans ((but_of (same_upd nt)).trans ((but_of (same_upd ne)).trans ((but_of (same_upd nt4)).trans (but_of (same_upd nt5))))))) (pool_upd (pool_upd (pool_upd (pool_upd p8 nt) ne) nt4) nt5)
      (newT (pool_upd (pool_upd (pool_upd p8 nt) ne) nt4) nt5 (.cons (newT (pool_upd (pool_upd p8 nt) ne) nt4 (.cons (.str _) (.cons (.str _) (.cons ((newT p8 nt (.cons (h7.same (wh_but b8)) .nil)).same (wh_upd ne)) (.cons (newT (pool_upd p8 nt) ne .nil) .nil))))) .nil))
      (It.mono (It.tup (Its.cons (It.tup (Its.cons (It.str testG) (Its.cons (It.str gn8.1) (Its.cons (It.tup (Its.cons i7 Its.nil)) (Its.cons (It.tup Its.nil) Its.nil))))) Its.nil))) ((Ins.cons (In.left (In.right j3 gn.2) gn8.2) Ins.nil).inner (by decide) (by decide) (by simp))
end
end Tr

/-! K4 -/
/-! ### the law's own look at a step -/
namespace Rw
open PySem PySem.Spec PyProof.Rows L2
theorem listD_shaped {ns : List Str} (h : ∀ n ∈ ns, sOk n) : SeqAt.shaped (.list (ns.map PyData.str)) = true := by
  obtain ⟨a, b⟩ := txt_lay ns h
  refine shaped_of (by simp only [PyData.canLay0]; exact a) ?_
  simp only [PyData.depth]
  omega
section
variable {P : Program} {w : World} {K : PySem.W.Frag} {mg : Str → Option Value} {base : Heap}
end
end Rw

/-! ### the law's own look at the locks -/
namespace Rw
open PySem PySem.Spec PyProof.Rows L2
theorem eqv_list_txt (as bs : List Str) : PyData.eqv (.list (as.map PyData.str)) (.list (bs.map PyData.str)) = decide (as = bs) := by
  rw [show PyData.eqv (.list (as.map PyData.str)) (.list (bs.map PyData.str)) = PyData.eqvAll (as.map PyData.str) (bs.map PyData.str) by simp only [PyData.eqv]]
  exact eqvAll_txt as bs
section
variable {P : Program} {w : World} {K : PySem.W.Frag} {mg : Str → Option Value} {base : Heap}
end
end Rw

/-! ### what is drawn: tuples of items -/
namespace Tr
open PySem PySem.Spec PyProof.Rows L2 Rw
structure Dr (a s : Nat) (ds : List D) : Prop where
  its : Its (15 - 2 * a) (25 * (flat ds).length) ds
  brs : Brs s ds
theorem Dr.nil {a s : Nat} : Dr a s [] := ⟨Its.mono Its.nil (Nat.zero_le _) (Nat.zero_le _), Brs.nil⟩
theorem Dr.app {a s1 s2 s : Nat} {x y : List D} (h : Dr a s1 x) (t : Dr a s2 y) (e : s1 + s2 ≤ s) : Dr a s (x ++ y) :=
  ⟨Its.app h.its t.its (Nat.le_refl _) (Nat.le_refl _) (by rw [flat_app, List.length_append]; omega), Brs.app h.brs t.brs e⟩
theorem Dr.mono {a s1 s2 : Nat} {x : List D} (h : Dr a s1 x) (e : s1 ≤ s2) : Dr a s2 x := ⟨h.its, h.brs.mono e⟩
theorem Dr.tight {a s : Nat} {x : List D} (h : Dr a s x) : Dr a (flat x).length x := ⟨h.its, ⟨Nat.le_refl _, h.brs.br⟩⟩
theorem Dr.one {a b c : Nat} {d : D} (h : It b c d) (e1 : b ≤ 9) (e2 : c ≤ 25) (e3 : a ≤ 3) (br : Brs 1 [d]) : Dr a 1 [d] :=
  ⟨Its.mono (Its.cons h Its.nil) (by omega) (by rw [flat_one, List.length_cons]; omega), br⟩
theorem pieceG : goodD (.str "piece") = true := by decide +kernel
theorem takeG : goodD (.str "take") = true := by decide +kernel
theorem giveG : goodD (.str "give") = true := by decide +kernel
theorem chooseG : goodD (.str "choose") = true := by decide +kernel
theorem Dr.piece {a : Nat} {n : Str} {v : D} (h : It 8 20 v) (gn : goodD (.str n) = true) (e3 : a ≤ 3) : Dr a 1 [.tuple [.str "piece", .str n, v]] :=
  Dr.one (It.tup (Its.cons (It.str pieceG) (Its.cons (It.str gn) (Its.cons h Its.nil)))) (by decide) (by decide) e3 (br_leaf test_piece.symm choose_piece.symm fun _ => ⟨_, _, rfl⟩)
theorem Dr.take {a : Nat} {n : Str} (gn : goodD (.str n) = true) (e3 : a ≤ 3) : Dr a 1 [.tuple [.str "take", .str n]] :=
  Dr.one (It.tup (Its.cons (It.str takeG) (Its.cons (It.str gn) Its.nil))) (by decide) (by decide) e3 (br_leaf (by decide +kernel) (by decide +kernel) fun _ => ⟨_, _, rfl⟩)
theorem Dr.give {a : Nat} {n : Str} (gn : goodD (.str n) = true) (e3 : a ≤ 3) : Dr a 1 [.tuple [.str "give", .str n]] :=
  Dr.one (It.tup (Its.cons (It.str giveG) (Its.cons (It.str gn) Its.nil))) (by decide) (by decide) e3 (br_leaf (by decide +kernel) (by decide +kernel) fun _ => ⟨_, _, rfl⟩)
theorem Dr.choose {a s1 s2 s : Nat} {x y : List D} (hx : Dr (a + 1) s1 x) (hy : Dr (a + 1) s2 y) (e3 : a < 3) (e : s1 + s2 + 1 ≤ s) : Dr a s [.tuple [.str "choose", .tuple x, .tuple y]] := by
  refine ⟨Its.mono (Its.cons (It.tup (Its.cons (It.str chooseG) (Its.cons (It.tup hx.its) (Its.cons (It.tup hy.its) Its.nil)))) Its.nil) (by omega) ?_, br_choose hx.brs hy.brs e⟩
  rw [flat_one, flatk_kids, kids_choose]
  simp only [List.flatMap_cons, List.flatMap_nil, List.append_nil, List.length_cons, List.length_append]
  omega
theorem Dr.test {a s1 s2 s : Nat} {n : Str} {x y : List D} (gn : goodD (.str n) = true) (hx : Dr (a + 1) s1 x) (hy : Dr (a + 1) s2 y) (e3 : a < 3) (e : s1 + s2 + 1 ≤ s) : Dr a s [.tuple [.str "test", .str n, .tuple x, .tuple y]] := by
  refine ⟨Its.mono (Its.cons (It.tup (Its.cons (It.str testG) (Its.cons (It.str gn) (Its.cons (It.tup hx.its) (Its.cons (It.tup hy.its) Its.nil))))) Its.nil) (by omega) ?_, br_test hx.brs hy.brs e⟩
  rw [flat_one, flatk_kids, kids_test]
  simp only [List.flatMap_cons, List.flatMap_nil, List.append_nil, List.length_cons, List.length_append]
  omega
def HeldAt (H0 : Hp) (ph : Addr) (hs : List Str) : Prop := H0 ph = some (.lst (hs.map V.str))
theorem HeldAt.same {H H' : Hp} {nl : Addr} {ns : List Str} (s : Same H H') (h : HeldAt H nl ns) : HeldAt H' nl ns := s _ _ h
def spSo (K : PySem.W.Frag) (R : Nat) : Sp := fun vs H Q _ => ∃ (o qq nl ph : Addr) (ns hs : List Str) (x y : Int) (a r : Nat), vs = [.ref o, .ref nl, .int x, .int y, .ref ph] ∧ x = (a : Nat) ∧ y = (r : Nat) ∧ PoolAt H o qq ∧ NamesAt (wh o H) nl ns ∧ HeldAt (wh o H) ph hs ∧ hs.length + r ≤ 100 ∧ a ≤ 3 ∧ 1 ≤ r ∧ r ≤ R ∧
  ∀ H' l ys ds, SameBut o H H' → PoolAt H' o qq → wh o H' l = some (.lst ys) → DpAll K (wh o H') ys ds → Dr a r ds → Lg a hs ds → Q (.ref l) H'
def spMn (K : PySem.W.Frag) (R : Nat) : Sp := fun vs H Q _ => ∃ (o qq nl ph : Addr) (ns hs : List Str) (x y : Int) (a r : Nat), vs = [.ref o, .ref nl, .int x, .int y, .ref ph] ∧ x = (a : Nat) ∧ y = (r : Nat) ∧ PoolAt H o qq ∧ NamesAt (wh o H) nl ns ∧ HeldAt (wh o H) ph hs ∧ hs.length + r ≤ 100 ∧ a ≤ 3 ∧ r ≤ R ∧
  ∀ H' l ys ds, SameBut o H H' → PoolAt H' o qq → SqT K (wh o H') l ys → DpAll K (wh o H') ys ds → Dr a r ds → Lg a hs ds → Q (.ref l) H'
theorem newL {H : Hp} {o qq t : Addr} {vs : List V} (p : PoolAt H o qq) (nt : H t = none) : wh o (upd H t (.lst vs)) t = some (.lst vs) := wh_new p nt
section
variable {P : Program} {w : World} {K : PySem.W.Frag} {mg : Str → Option Value} {base : Heap}
abbrev sSo : Stmt := top 49
theorem scSo : FnScope ["_law_pool_here", "_law_names", "_law_deep", "_law_room", "_law_held", "_law_way", "_law_free", "_law_one", "_law_other", "_law_lock", "_law_name"] ["_law_pool_here", "_law_names", "_law_deep", "_law_room", "_law_held"] (defScope sSo) := ⟨rfl, rfl, rfl, by decide +kernel, rfl, by decide +kernel, by decide +kernel⟩
abbrev sMn : Stmt := top 50
theorem scMn : FnScope ["_law_pool_here", "_law_names", "_law_deep", "_law_room", "_law_held", "_law_found", "_law_turn"] ["_law_pool_here", "_law_names", "_law_deep", "_law_room", "_law_held"] (defScope sMn) := ⟨rfl, rfl, rfl, by decide +kernel, rfl, by decide +kernel, by decide +kernel⟩
theorem ok_so0 {f : Addr} {fd : FuncData} (F : Fun K "_law_some" "_law_some" sSo f fd) : FnOk P w K mg base CX0 19 f fd ["_law_pool_here", "_law_names", "_law_deep", "_law_room", "_law_held"] (spSo K 0) := by
  refine F.ok scSo (fun vs H Q E h => ?_) (fun cdv A outer s H vs Q E hr h => ?_)
  · obtain ⟨o, qq, nl, ph, ns, hs, x, y, a, r, rfl, _⟩ := h
    rfl
  · obtain ⟨o, qq, nl, ph, ns, hs, x, y, a, r, rfl, _, _, _, _, _, _, _, h1, h2, _⟩ := h
    omega
theorem ok_mn (R : Nat) {f fS fD fZ : Addr} {fd fdS fdD fdZ : FuncData} (F : Fun K "_law_many" "_law_many" sMn f fd)
    (GS : FnOk P w K mg base CX0 (2 * R + 19) fS fdS ["_law_pool_here", "_law_names", "_law_deep", "_law_room", "_law_held"] (spSo K R)) (TS : Called K mg "_law_some" ["_law_pool_here", "_law_names", "_law_deep", "_law_room", "_law_held"] fS fdS)
    (GD : FnOk P w K mg base CX0 1 fD fdD ["_law_pool_here", "_law_many_here"] (spDraw K)) (TD : Called K mg "_law_draw" ["_law_pool_here", "_law_many_here"] fD fdD)
    (GZ : FnOk P w K mg base CX0 18 fZ fdZ ["_law_items"] (spSzL K 16)) (TZ : Called K mg "_law_size" ["_law_items"] fZ fdZ) (m_range : mg "range" = none) (m_tuple : mg "tuple" = none) (hR : R ≤ 9) :
    FnOk P w K mg base CX0 (2 * R + 20) f fd ["_law_pool_here", "_law_names", "_law_deep", "_law_room", "_law_held"] (spMn K R) := by
  refine F.ok scMn (fun vs H Q E h => ?_) (fun cdv A outer s H vs Q E hr h => ?_)
  · obtain ⟨o, qq, nl, ph, ns, hs, x, y, a, r, rfl, _⟩ := h
    rfl
  · obtain ⟨o, qq, nl, ph, ns, hs, x, y, a, r, rfl, ex, ey, hp, hn, hh, hl, ha, hrR, q⟩ := h
    refine ⟨_, (pss_cons (ps_set (i := 5) scMn.nd rfl (.inl rfl) (pe_lst pa_nil))
       (pss_cons (ps_for PassesOwn.never rfl (pi_range1 rfl m_range (pa_cons (pv 3) pa_nil)) (pg_name (i := 6) scMn.nd rfl (.inl rfl))
       (pss_one (ps_if (PW.pt (pw_and (pt_cmpR op_lt (pe_call GZ (hr.mono (by first | decide | omega)) rfl TZ.1 TZ.2.1 TZ.2.2 .nil pass0 (pa_cons (pv 5) pa_nil)) (pv 3) (nomark _)) (pw_and1 (pt_cmpR op_gt (pe_call GD (hr.mono (by first | decide | omega)) rfl TD.1 TD.2.1 TD.2.2 .nil pass0 (pa_cons (pv 0) (pa_cons pe_int pa_nil))) pe_int (nomark _)))))
       (pss_one (ps_set (i := 5) scMn.nd rfl (.inl rfl) (pe_op op_cat (pv 5) (pe_call GS (hr.mono (by first | decide | omega)) rfl TS.1 TS.2.1 TS.2.2 .nil pass0 (pa_cons (pv 0) (pa_cons (pv 1) (pa_cons (pv 2) (pa_cons (pe_op op_sub (pv 3) (pe_call GZ (hr.mono (by first | decide | omega)) rfl TZ.1 TZ.2.1 TZ.2.2 .nil pass0 (pa_cons (pv 5) pa_nil))) (pa_cons (pv 4) pa_nil)))))))))
       pss_nil)))
       (pss_one (ps_ret (pe_callTy (call_tuple_K (K := K) rfl) (by rfl) m_tuple (by decide +kernel) (pa_cons (pv 5) pa_nil)))))), ?_⟩
    refine ⟨Nat.zero_le _, fun l0 nl0 => ?_⟩
    have s0 := same_upd (o := HO.lst []) nl0
    have p0 := pool_upd (x := HO.lst []) hp nl0
    refine ⟨_, rfl, y, rfl, by omega, by omega, for_range (lo := 0) (n := y.toNat)
      (fun i σ H' => ∃ (l : Addr) (ys : List V) (ds : List D) (v6 : Option V), σ = [some (.ref o), some (.ref nl), some (.int x), some (.int y), some (.ref ph), some (.ref l), v6] ∧ SameBut o H H' ∧ PoolAt H' o qq ∧ wh o H' l = some (.lst ys) ∧ DpAll K (wh o H') ys ds ∧ Dr a r ds ∧ Lg a hs ds)
      ⟨l0, [], [], none, rfl, but_of s0, p0, newL hp nl0, .nil, Dr.nil, Lg.nil⟩ ?_ ?_⟩
    · rintro i σ H1 hi ⟨l, ys, ds, v6, rfl, b1, p1, hl1, hd1, dr, lg⟩
      refine name_in ?_
      dsimp only
      have hn1 := hn.same (wh_but b1)
      have hh1 := hh.same (wh_but b1)
      have fz := dr.its.fits (n := 16) (by have := dr.brs.len; omega) (by omega)
      have dl := dpl hd1
      have fl := flat_ge ds
      have rl := dr.brs.len
      refine ifS_via (fun b H' => SameBut o H1 H' ∧ PoolAt H' o qq ∧ (b = true → (flat ds).length < r)) ?_ ?_
      · intro QQ hQ
        refine ⟨_, rfl, wh o H1, l, ys, ds, rfl, wh_sub, SqL.of (wh_sub _ _ hl1), hd1, fz, dr.brs.br, fun H2 s2 => ⟨_, rfl, _, _, rfl, rfl, _, rfl, ite2 (fun h1 => ?_) (fun h1 => ?_)⟩⟩
        · refine ⟨_, rfl, o, qq, _, rfl, p1.same s2, by decide, by decide, fun H3 n b3 p3 n0 n1 => ⟨_, _, rfl, rfl, _, rfl, hQ _ _ ⟨(but_of s2).trans b3, p3, fun _ => ?_⟩⟩⟩
          have h1' := of_decide_eq_true h1
          omega
        · exact hQ _ _ ⟨but_of s2, p1.same s2, fun z => nomatch z⟩
      · rintro b H2 ⟨b2, p2, hb⟩
        have hl2 := wh_but b2 _ _ hl1
        have hd2 := hd1.same (wh_but b2)
        cases b with
        | false => exact iteF ⟨l, ys, ds, _, rfl, b1.trans b2, p2, hl2, hd2, dr, lg⟩
        | true =>
          have hb := hb rfl
          refine iteT ⟨_, rfl, _, rfl, _, rfl, _, rfl, _, rfl, ?_⟩
          refine ⟨_, rfl, wh o H2, l, ys, ds, rfl, wh_sub, SqL.of (wh_sub _ _ hl2), hd2, fz, dr.brs.br, fun H3 s3 => ⟨_, _, rfl, rfl, _, rfl, ?_⟩⟩
          have b3 := b2.trans (but_of s3)
          refine ⟨o, qq, nl, ph, ns, hs, _, _, a, r - (flat ds).length, rfl, ex, by omega, p2.same s3, hn1.same (wh_but b3), hh1.same (wh_but b3), by omega, ha, by omega, by omega, fun H4 l4 ys4 ds4 b4 p4 hl4 hd4 dr4 lg4 => ?_⟩
          have b34 := (but_of s3).trans b4
          have hl24 := wh_but b34 _ _ hl2
          have hd24 := hd2.same (wh_but b34)
          have dl4 := dpl hd4
          have fl4 := flat_ge ds4
          have rl4 := dr4.brs.len
          refine ⟨l, l4, ys, ys4, rfl, rfl, wh_sub _ _ hl24, wh_sub _ _ hl4, by rw [sizeLine_eq]; omega, fun l5 nl5 => name_in ?_⟩
          have s5 := same_upd (o := HO.lst (ys ++ ys4)) nl5
          refine ⟨l5, _, ds ++ ds4, _, rfl, b1.trans (b2.trans (b34.trans (but_of s5))), p4.same s5, newL p4 nl5, (dp_app hd24 hd4).same (wh_same s5), Dr.app dr.tight dr4 (by omega), lg.app lg4⟩
    · rintro σ H1 ⟨l, ys, ds, v6, rfl, b1, p1, hl1, hd1, dr, lg⟩
      refine ⟨_, rfl, l, ys, rfl, .inl ⟨SqL.of (wh_sub _ _ hl1), fun t nt => ?_⟩⟩
      exact q _ t ys ds (b1.trans (but_of (same_upd nt))) (pool_upd p1 nt) (SqT.of (wh_new p1 nt)) (hd1.same (wh_upd nt)) dr lg
theorem ok_so (R : Nat) {f fM fP fD fZ fI fL : Addr} {fd fdM fdP fdD fdZ fdI fdL : FuncData} (F : Fun K "_law_some" "_law_some" sSo f fd)
    (GM : FnOk P w K mg base CX0 (2 * R + 20) fM fdM ["_law_pool_here", "_law_names", "_law_deep", "_law_room", "_law_held"] (spMn K R)) (TM : Called K mg "_law_many" ["_law_pool_here", "_law_names", "_law_deep", "_law_room", "_law_held"] fM fdM)
    (GP : FnOk P w K mg base CX0 2 fP fdP ["_law_pool_here", "_law_some_here"] (spPick K)) (TP : Called K mg "_law_pick" ["_law_pool_here", "_law_some_here"] fP fdP)
    (GD : FnOk P w K mg base CX0 1 fD fdD ["_law_pool_here", "_law_many_here"] (spDraw K)) (TD : Called K mg "_law_draw" ["_law_pool_here", "_law_many_here"] fD fdD)
    (GZ : FnOk P w K mg base CX0 18 fZ fdZ ["_law_items"] (spSz K 16)) (TZ : Called K mg "_law_size" ["_law_items"] fZ fdZ)
    (GI : FnOk P w K mg base CX0 3 fI fdI ["_law_pool_here", "_law_names"] (spIr K)) (TI : Called K mg "_law_inner" ["_law_pool_here", "_law_names"] fI fdI)
    (GL : FnOk P w K mg base CX0 3 fL fdL ["_law_pool_here", "_law_names"] (spPl K)) (TL : Called K mg "_law_plain" ["_law_pool_here", "_law_names"] fL fdL)
    (m_list : mg "list" = none) (hR : R ≤ 8) :
    FnOk P w K mg base CX0 (2 * R + 21) f fd ["_law_pool_here", "_law_names", "_law_deep", "_law_room", "_law_held"] (spSo K (R + 1)) := by
  refine F.ok scSo (fun vs H Q E h => ?_) (fun cdv A outer s H vs Q E hr h => ?_)
  · obtain ⟨o, qq, nl, ph, ns, hs, x, y, a, r, rfl, _⟩ := h
    rfl
  · obtain ⟨o, qq, nl, ph, ns, hs, x, y, a, r, rfl, ex, ey, hp, hn, hh, hl, ha, hr1, hrR, q⟩ := h
    refine ⟨_, (pss_cons (ps_par (i := 5) (j := 6) rfl scSo.nd rfl rfl (by decide) rfl rfl (pa_cons (pe_call GD (hr.mono (by first | decide | omega)) rfl TD.1 TD.2.1 TD.2.2 .nil pass0 (pa_cons (pv 0) (pa_cons pe_int pa_nil))) (pa_cons (pe_lc (own := [("_law_name", 10)]) (g := gName 10)  (by rfl) scSo.nd (pi_list (pv 1)) (blkOk_by (own := [("_law_name", 10)]) (N := ["_law_pool_here", "_law_names", "_law_deep", "_law_room", "_law_held", "_law_way", "_law_free", "_law_one", "_law_other", "_law_lock", "_law_name"]) (sc := defScope sSo) (by decide +kernel)) (fun _ _ _ _ _ => (pg_name (i := 10) scSo.nd rfl (Or.inl rfl))) (fun _ _ _ _ _ => (pts_one (pt_cmpR (op_notIn_seqKK (K := K) rfl) (pv 10) (pv 4) (by rfl)))) (fun _ _ _ _ _ => (pv 10))) pa_nil)) (by rfl))
       (pss_cons (ps_if (PW.pt (pw_and (pt_cmpR op_lt (pv 5) pe_int (nomark _)) (pw_and (pt_cmpR op_gt (pv 3) pe_int (nomark _)) (pw_and1 (pt_cmpR op_lt (pv 2) pe_int (nomark _))))))
       (pss_cons (ps_set (i := 7) scSo.nd rfl (.inl rfl) (pe_call GM (hr.mono (by first | decide | omega)) rfl TM.1 TM.2.1 TM.2.2 .nil pass0 (pa_cons (pv 0) (pa_cons (pv 1) (pa_cons (pe_op op_add (pv 2) pe_int) (pa_cons (pe_call GD (hr.mono (by first | decide | omega)) rfl TD.1 TD.2.1 TD.2.2 .nil pass0 (pa_cons (pv 0) (pa_cons (pv 3) pa_nil))) (pa_cons (pv 4) pa_nil)))))))
       (pss_cons (ps_set (i := 8) scSo.nd rfl (.inl rfl) (pe_call GM (hr.mono (by first | decide | omega)) rfl TM.1 TM.2.1 TM.2.2 .nil pass0 (pa_cons (pv 0) (pa_cons (pv 1) (pa_cons (pe_op op_add (pv 2) pe_int) (pa_cons (pe_op op_sub (pe_op op_sub (pv 3) pe_int) (pe_call GZ (hr.mono (by first | decide | omega)) rfl TZ.1 TZ.2.1 TZ.2.2 .nil pass0 (pa_cons (pv 7) pa_nil))) (pa_cons (pv 4) pa_nil)))))))
       (pss_one (ps_ret (pe_ifExp (pt_cmpR op_eq (pv 5) pe_int (nomark _))
       (pe_lst (pa_cons (pe_tup (pa_cons pe_str (pa_cons (pv 7) (pa_cons (pv 8) pa_nil)))) pa_nil))
       (pe_lst (pa_cons (pe_tup (pa_cons pe_str (pa_cons (pe_call GP (hr.mono (by first | decide | omega)) rfl TP.1 TP.2.1 TP.2.2 .nil pass0 (pa_cons (pv 0) (pa_cons (pv 1) pa_nil))) (pa_cons (pv 7) (pa_cons (pv 8) pa_nil))))) pa_nil)))))))
       pss_nil)
       (pss_cons (ps_if (PW.pt (pw_and (pt_cmpR op_lt (pv 5) pe_int (nomark _)) (pw_and (pt_cmpR op_gt (pv 3) pe_int (nomark _)) (pw_and1 (pt_cmpR (Nm.op_neDK (K := K) rfl hr.units) (pv 6) (pe_lst pa_nil) (nomark _))))))
       (pss_cons (ps_set (i := 9) scSo.nd rfl (.inl rfl) (pe_call GP (hr.mono (by first | decide | omega)) rfl TP.1 TP.2.1 TP.2.2 .nil pass0 (pa_cons (pv 0) (pa_cons (pv 6) pa_nil))))
       (pss_one (ps_ret (pe_op op_cat (pe_op op_cat (pe_lst (pa_cons (pe_tup (pa_cons pe_str (pa_cons (pv 9) pa_nil))) pa_nil)) (pe_callTy (call_list_K (K := K) rfl) (by rfl) m_list (by decide +kernel) (pa_cons (pe_call GM (hr.mono (by first | decide | omega)) rfl TM.1 TM.2.1 TM.2.2 .nil pass0 (pa_cons (pv 0) (pa_cons (pv 1) (pa_cons (pv 2) (pa_cons (pe_op op_sub (pv 3) pe_int) (pa_cons (pe_op op_cat (pv 4) (pe_lst (pa_cons (pv 9) pa_nil))) pa_nil)))))) pa_nil))) (pe_lst (pa_cons (pe_tup (pa_cons pe_str (pa_cons (pv 9) pa_nil))) pa_nil))))))
       pss_nil)
       (pss_cons (ps_if (PW.pt (pw_and (pt_cmpR op_eq (pv 5) pe_int (nomark _)) (pw_and1 (pt_cmpR (Nm.op_neDK (K := K) rfl hr.units) (pv 6) (pe_lst pa_nil) (nomark _)))))
       (pss_one (ps_ret (pe_lst (pa_cons (pe_tup (pa_cons pe_str (pa_cons (pe_call GP (hr.mono (by first | decide | omega)) rfl TP.1 TP.2.1 TP.2.2 .nil pass0 (pa_cons (pv 0) (pa_cons (pv 6) pa_nil))) (pa_cons (pe_call GI (hr.mono (by first | decide | omega)) rfl TI.1 TI.2.1 TI.2.2 .nil pass0 (pa_cons (pv 0) (pa_cons (pv 1) pa_nil))) pa_nil)))) pa_nil))))
       pss_nil)
       (pss_one (ps_ret (pe_lst (pa_cons (pe_call GL (hr.mono (by first | decide | omega)) rfl TL.1 TL.2.1 TL.2.2 .nil pass0 (pa_cons (pv 0) (pa_cons (pv 1) pa_nil))) pa_nil)))))))), ?_⟩
    refine ⟨_, rfl, o, qq, _, rfl, hp, by decide, by decide, fun H1 w0 b1 p1 w1 w2 => ?_⟩
    have hn1 := hn.same (wh_but b1)
    have hh1 := hh.same (wh_but b1)
    have snl : SqL K H1 nl (ns.map V.str) := SqL.of (wh_sub _ _ hn1.1)
    refine ⟨_, rfl, nl, rfl, ⟨_, snl⟩, fun D nD => lc_list (K := K) (a := nl) (xs := ns.map V.str) (fun j H' => Same H1 H' ∧ ∃ ys : List Str, H' D = some (.lst (ys.map V.str)) ∧ ys.length ≤ j ∧ ∀ n ∈ ys, n ∈ ns ∧ n ∉ hs)
        ⟨same_upd nD, [], upd_same, Nat.zero_le _, fun n hn => nomatch hn⟩ (fun j H' _ h => h.1.seq snl) ?_ ?_⟩
    · rintro j x' H6 hx ⟨s6, ys, hD6, yl, al⟩
      rw [List.getElem?_map] at hx
      obtain ⟨n, hn', rfl⟩ := Option.map_eq_some_iff.mp hx
      have hj : j < ns.length := (List.getElem?_eq_some_iff.mp hn').1
      have hz := hn1.2.2.1
      refine ⟨rfl, ?_⟩
      refine ⟨_, rfl, _, rfl, ph, _, rfl, .inl (SqL.of (s6 _ _ (wh_sub _ _ hh1))), rfl, flat_txt _, _, rfl, ?_⟩
      show if (!inV (.str n) (hs.map V.str)) = true then _ else _
      rw [inV_txt]
      by_cases hin : n ∈ hs
      · rw [decide_eq_true hin]
        exact iteF ⟨s6, ys, hD6, by omega, al⟩
      · rw [decide_eq_false hin]
        refine iteT ⟨_, rfl, ys.map V.str, hD6, by rw [List.length_map, sizeLine_eq]; omega, same_updN nD s6, ys ++ [n], by rw [upd_same, List.map_append]; rfl, by rw [List.length_append]; show ys.length + 1 ≤ _; omega, fun m hm => ?_⟩
        rcases List.mem_append.mp hm with hm | hm
        · exact al m hm
        · rw [List.mem_singleton.mp hm]
          exact ⟨List.mem_of_getElem? hn', hin⟩
    rintro H2 ⟨s2, ys, hD2, yl, al⟩
    rw [List.length_map] at yl
    have nlen := hn1.2.2.1
    have ylen : ys.length ≤ 100 := by omega
    have p2 := p1.same s2
    have b2 := b1.trans (but_of s2)
    have Do : D ≠ o := pool_ne p1 nD
    have hn2 := hn1.same (wh_same s2)
    have hh2 := hh1.same (wh_same s2)
    have hf2 : wh o H2 D = some (.lst (ys.map V.str)) := wh_at Do hD2
    have good : ∀ n ∈ ys, goodD (.str n) = true ∧ nameB n = true := fun n hn' => hn1.2.2.2 n (al n hn').1
    have sok : ∀ n ∈ ys, sOk n := fun n hn' => by
      have z := (good n hn').1
      rw [goodD, Bool.and_eq_true] at z
      exact z.1
    clear snl yl
    refine ⟨_, _, rfl, ?_⟩
    dsimp only
    have free : ∀ H3, Same H2 H3 → ys ≠ [] → NamesAt (wh o H3) D ys := fun H3 s3 ne => ⟨wh_same s3 _ _ hf2, ne, ylen, good⟩
    -- a test or a choose
    refine seqS_in (ifS_via (fun b H' => H2 = H' ∧ (b = true → 1 < r ∧ a < 3)) (fun QQ hQ => ?_) ?_)
    · refine ⟨_, rfl, _, _, rfl, rfl, _, rfl, ite2 (fun h1 => ?_) (fun h1 => hQ _ _ ⟨rfl, fun z => nomatch z⟩)⟩
      refine ⟨_, rfl, _, _, rfl, rfl, _, rfl, ite2 (fun h2 => ?_) (fun h1 => hQ _ _ ⟨rfl, fun z => nomatch z⟩)⟩
      refine ⟨_, rfl, _, _, rfl, rfl, _, rfl, hQ _ _ ⟨rfl, fun h3 => ?_⟩⟩
      have h2' := of_decide_eq_true h2
      have h3' := of_decide_eq_true h3
      omega
    rintro b H3 ⟨rfl, hb⟩
    cases b with
    | true =>
      obtain ⟨h1, h3⟩ := hb rfl
      refine iteT ⟨_, rfl, _, rfl, _, rfl, _, _, rfl, rfl, _, rfl, _, rfl, o, qq, _, rfl, p2, by omega, by omega, fun H4 m b4 p4 m0 m1 => ?_⟩
      have hn4 := hn2.same (wh_but b4)
      have hh4 := hh2.same (wh_but b4)
      refine ⟨_, rfl, o, qq, nl, ph, ns, hs, _, _, a + 1, m.toNat, rfl, by omega, by omega, p4, hn4, hh4, by omega, by omega, by omega, fun H5 t5 ys5 ds5 b5 p5 ht5 hd5 dr5 lg5 => ?_⟩
      have hn5 := hn4.same (wh_but b5)
      have hh5 := hh4.same (wh_but b5)
      have l5 := dr5.brs.len
      refine ⟨_, rfl, _, rfl, _, rfl, _, _, rfl, rfl, _, rfl, _, _, rfl, rfl, _, rfl, wh o H5, t5, ys5, ds5, rfl, wh_sub, wh_sub.tupS ht5, hd5, dr5.its.fits (by omega) (by omega), dr5.brs.br, fun H6 s6 => ⟨_, _, rfl, rfl, _, rfl, ?_⟩⟩
      have p6 := p5.same s6
      refine ⟨o, qq, nl, ph, ns, hs, _, _, a + 1, r - 1 - (flat ds5).length, rfl, by omega, by omega, p6, hn5.same (wh_same s6), hh5.same (wh_same s6), by omega, by omega, by omega, fun H7 t7 ys7 ds7 b7 p7 ht7 hd7 dr7 lg7 => ?_⟩
      have b57 := (but_of s6).trans b7
      have hn7 := hn5.same (wh_but b57)
      have ht57 := (wh_but b57).tupS ht5
      have hd57 := hd5.same (wh_but b57)
      have bA := b2.trans (b4.trans (b5.trans b57))
      refine ⟨_, rfl, rfl, _, rfl, ite_any ?_ ?_⟩
      · refine ⟨_, rfl, _, rfl, by show 3 ≤ sizeLine; decide, fun t8 nt8 => ⟨by show 1 ≤ sizeLine; decide, fun l9 nl9 => ?_⟩⟩
        have s8 := same_upd (o := HO.tup [V.str "choose", V.ref t5, V.ref t7]) nt8
        have p8 := pool_upd (x := HO.tup [V.str "choose", V.ref t5, V.ref t7]) p7 nt8
        refine q _ _ _ _ (bA.trans ((but_of s8).trans (but_of (same_upd nl9)))) (pool_upd p8 nl9) (newL p8 nl9) ((DpAll.cons (newT p7 nt8 (.cons (.str _) (.cons (.tup ht57 hd57) (.cons (.tup ht7 hd7) .nil)))) .nil).same (wh_upd nl9)) (Dr.choose dr5.tight dr7 h3 (by omega)) (Lg.choose h3 lg5 lg7)
      · refine ⟨_, rfl, _, rfl, pickN p7 hn7 fun H8 n b8 p8 hn8 _ gn => ⟨_, rfl, _, rfl, by show 4 ≤ sizeLine; decide, fun t8 nt8 => ⟨by show 1 ≤ sizeLine; decide, fun l9 nl9 => ?_⟩⟩⟩
        have s8 := same_upd (o := HO.tup [V.str "test", V.str n, V.ref t5, V.ref t7]) nt8
        have p9 := pool_upd (x := HO.tup [V.str "test", V.str n, V.ref t5, V.ref t7]) p8 nt8
        have w8 := wh_but b8
        refine q _ _ _ _ (bA.trans (b8.trans ((but_of s8).trans (but_of (same_upd nl9))))) (pool_upd p9 nl9) (newL p9 nl9) ((DpAll.cons (newT p8 nt8 (.cons (.str _) (.cons (.str _) (.cons (.tup (w8.tupS ht57) (hd57.same w8)) (.cons (.tup (w8.tupS ht7) (hd7.same w8)) .nil))))) .nil).same (wh_upd nl9)) (Dr.test gn.1 dr5.tight dr7 h3 (by omega)) (Lg.test gn.2 h3 lg5 lg7)
    | false =>
    refine iteF ?_
    dsimp only [tNext]
    clear hb
    -- something under a lock
    refine seqS_in (ifS_via (fun b H' => Same H2 H' ∧ (b = true → 1 < r ∧ ys ≠ [])) (fun QQ hQ => ?_) ?_)
    · refine ⟨_, rfl, _, _, rfl, rfl, _, rfl, ite2 (fun h1 => ?_) (fun h1 => hQ _ _ ⟨Same.refl _, fun z => nomatch z⟩)⟩
      refine ⟨_, rfl, _, _, rfl, rfl, _, rfl, ite2 (fun h2 => ?_) (fun h1 => hQ _ _ ⟨Same.refl _, fun z => nomatch z⟩)⟩
      refine ⟨_, rfl, Nat.zero_le _, fun z nz => ?_⟩
      have s3 := same_upd (o := HO.lst []) nz
      refine ⟨.list (ys.map PyData.str), .list (([] : List Str).map PyData.str), .lst (SqL.of (s3 _ _ hD2)) (dp_txts _), .lst (SqL.of upd_same) .nil, listD_shaped sok, listD_shaped (fun n hn => nomatch hn), _, rfl, ?_⟩
      rw [eqv_list_txt]
      refine hQ _ _ ⟨s3, fun h3 => ⟨?_, fun e => ?_⟩⟩
      · have h2' := of_decide_eq_true h2
        omega
      · rw [decide_eq_true e] at h3
        cases h3
    rintro b H3 ⟨s3, hb⟩
    have p3 := p2.same s3
    have b3 := b2.trans (but_of s3)
    have hn3 := hn2.same (wh_same s3)
    have hh3 := hh2.same (wh_same s3)
    cases b with
    | true =>
      obtain ⟨h1, hne⟩ := hb rfl
      refine iteT ⟨_, rfl, _, rfl, pickN p3 (free H3 s3 hne) fun H4 n b4 p4 _ mn gn => name_in ?_⟩
      have hn4 := hn3.same (wh_but b4)
      have hh4 := hh3.same (wh_but b4)
      refine ⟨_, rfl, by show 2 ≤ sizeLine; decide, fun t5 nt5 => ⟨by show 1 ≤ sizeLine; decide, fun l5 nl5 => ?_⟩⟩
      have s5 := same_upd (o := HO.tup [V.str "take", V.str n]) nt5
      have p5 := pool_upd (x := HO.tup [V.str "take", V.str n]) p4 nt5
      have h5 := newT (K := K) p4 nt5 (.cons (.str "take") (.cons (.str n) .nil))
      have s6 := same_upd (o := HO.lst [V.ref t5]) nl5
      have p6 := pool_upd (x := HO.lst [V.ref t5]) p5 nl5
      have hl6 := newL (vs := [V.ref t5]) p5 nl5
      have h6 := h5.same (wh_same (o := o) s6)
      have s46 := s5.trans s6
      have hn6 := hn4.same (wh_same s46)
      have hh6 := hh4.same (wh_same s46)
      generalize upd (upd H4 t5 (HO.tup [V.str "take", V.str n])) l5 (HO.lst [V.ref t5]) = H6 at s46 p6 hl6 h6 hn6 hh6
      refine ⟨_, rfl, _, rfl, _, rfl, _, rfl, _, _, rfl, rfl, _, rfl, _, rfl, by show 1 ≤ sizeLine; decide, fun l7 nl7 => ?_⟩
      have s7 := same_upd (o := HO.lst [V.str n]) nl7
      have p7 := pool_upd (x := HO.lst [V.str n]) p6 nl7
      refine ⟨ph, l7, _, _, rfl, rfl, s7 _ _ (wh_sub _ _ hh6), upd_same, by rw [List.length_map, sizeLine_eq]; show _ + 1 ≤ _; omega, fun l8 nl8 => ?_⟩
      have s8 := same_upd (o := HO.lst (hs.map V.str ++ [V.str n])) nl8
      have p8 := pool_upd (x := HO.lst (hs.map V.str ++ [V.str n])) p7 nl8
      have s68 := s7.trans s8
      have hh8 : HeldAt (wh o (upd (upd H6 l7 (HO.lst [V.str n])) l8 (HO.lst (hs.map V.str ++ [V.str n])))) l8 (hs ++ [n]) := by
        have z := newL (vs := hs.map V.str ++ [V.str n]) p7 nl8
        unfold HeldAt
        rw [z, List.map_append]
        rfl
      refine ⟨o, qq, nl, l8, ns, hs ++ [n], _, _, a, r - 2, rfl, ex, by omega, p8, hn6.same (wh_same s68), hh8, by rw [List.length_append, List.length_singleton]; omega, ha, by omega, fun H9 t9 ys9 ds9 b9 p9 ht9 hd9 dr9 lg9 => ?_⟩
      have l9 := dr9.brs.len
      have fl9 := flat_ge ds9
      have dl9 := dpl hd9
      refine ⟨t9, ys9, rfl, .inr (wh_sub.tupS ht9), fun l10 nl10 => ?_⟩
      have s10 := same_upd (o := HO.lst ys9) nl10
      have p10 := pool_upd (x := HO.lst ys9) p9 nl10
      have b610 := (but_of s68).trans (b9.trans (but_of s10))
      refine ⟨l5, l10, _, _, rfl, rfl, wh_sub _ _ (wh_but b610 _ _ hl6), upd_same, by rw [sizeLine_eq]; show 1 + _ ≤ _; omega, fun l11 nl11 => ?_⟩
      have s11 := same_upd (o := HO.lst ([V.ref t5] ++ ys9)) nl11
      have p11 := pool_upd (x := HO.lst ([V.ref t5] ++ ys9)) p10 nl11
      have hl11 := newL (vs := [V.ref t5] ++ ys9) p10 nl11
      refine ⟨_, rfl, by show 2 ≤ sizeLine; decide, fun t12 nt12 => ⟨by show 1 ≤ sizeLine; decide, fun l13 nl13 => ?_⟩⟩
      have s12 := same_upd (o := HO.tup [V.str "give", V.str n]) nt12
      have p12 := pool_upd (x := HO.tup [V.str "give", V.str n]) p11 nt12
      have h12 := newT (K := K) p11 nt12 (.cons (.str "give") (.cons (.str n) .nil))
      have s13 := same_upd (o := HO.lst [V.ref t12]) nl13
      have p13 := pool_upd (x := HO.lst [V.ref t12]) p12 nl13
      refine ⟨l11, l13, _, _, rfl, rfl, s13 _ _ (s12 _ _ (wh_sub _ _ hl11)), upd_same, by rw [sizeLine_eq, List.length_append]; show 1 + _ + 1 ≤ _; omega, fun l14 nl14 => ?_⟩
      have s14 := same_upd (o := HO.lst ([V.ref t5] ++ ys9 ++ [V.ref t12])) nl14
      have b614 := b610.trans (but_of (s11.trans (s12.trans (s13.trans s14))))
      have w14 := wh_same (o := o) (s10.trans (s11.trans (s12.trans (s13.trans s14))))
      refine q _ _ _ ([.tuple [.str "take", .str n]] ++ ds9 ++ [.tuple [.str "give", .str n]]) (b3.trans (b4.trans ((but_of s46).trans b614))) (pool_upd p13 nl14) (newL p13 nl14) (dp_app (dp_app (.cons (h6.same (wh_but b614)) .nil) (hd9.same w14)) (.cons (h12.same (wh_same (s13.trans s14))) .nil)) ?_ (Lg.locked gn.2 (al n mn).2 lg9)
      exact Dr.app (Dr.app (Dr.take gn.1 ha) dr9 (Nat.le_refl _)) (Dr.give gn.1 ha) (by omega)
    | false =>
    refine iteF ?_
    dsimp only [tNext]
    clear hb
    -- a piece
    refine seqS_in (ifS_via (fun b H' => Same H2 H' ∧ (b = true → ys ≠ [])) (fun QQ hQ => ?_) ?_)
    · refine ⟨_, rfl, rfl, _, rfl, ite2 (fun h1 => ?_) (fun h1 => hQ _ _ ⟨s3, fun z => nomatch z⟩)⟩
      refine ⟨_, rfl, Nat.zero_le _, fun z nz => ?_⟩
      have s4 := same_upd (o := HO.lst []) nz
      refine ⟨.list (ys.map PyData.str), .list (([] : List Str).map PyData.str), .lst (SqL.of (s4 _ _ (s3 _ _ hD2))) (dp_txts _), .lst (SqL.of upd_same) .nil, listD_shaped sok, listD_shaped (fun n hn => nomatch hn), _, rfl, ?_⟩
      rw [eqv_list_txt]
      refine hQ _ _ ⟨s3.trans s4, fun h3 e => ?_⟩
      rw [decide_eq_true e] at h3
      cases h3
    clear p3 b3 hn3 hh3 s3
    rintro b H3 ⟨s3, hb⟩
    have p3 := p2.same s3
    have b3 := b2.trans (but_of s3)
    have hn3 := hn2.same (wh_same s3)
    cases b with
    | true =>
      have hne := hb rfl
      refine iteT ⟨_, rfl, _, rfl, pickN p3 (free H3 s3 hne) fun H4 n b4 p4 _ mn gn => ⟨_, rfl, _, rfl, o, qq, nl, ns, rfl, p4, hn3.same (wh_but b4), fun H5 v5 d5 b5 p5 h5 i5 in5 => ⟨by show 3 ≤ sizeLine; decide, fun t6 nt6 => ⟨by show 1 ≤ sizeLine; decide, fun l7 nl7 => ?_⟩⟩⟩⟩
      have s6 := same_upd (o := HO.tup [V.str "piece", V.str n, v5]) nt6
      have p6 := pool_upd (x := HO.tup [V.str "piece", V.str n, v5]) p5 nt6
      refine q _ _ _ _ (b3.trans (b4.trans (b5.trans ((but_of s6).trans (but_of (same_upd nl7)))))) (pool_upd p6 nl7) (newL p6 nl7) ((DpAll.cons (newT p5 nt6 (.cons (.str _) (.cons (.str _) (.cons h5 .nil)))) .nil).same (wh_upd nl7)) ((Dr.piece i5 gn.1 ha).mono hr1) (Lg.piece gn.2 in5 (al n mn).2)
    | false =>
    refine iteF ?_
    dsimp only [tNext]
    refine ⟨_, rfl, _, rfl, o, qq, nl, ns, rfl, p3, hn3, fun H5 v5 d5 b5 p5 h5 i5 br5 lg5 => ⟨by show 1 ≤ sizeLine; decide, fun l7 nl7 => ?_⟩⟩
    exact q _ _ _ _ (b3.trans (b5.trans (but_of (same_upd nl7)))) (pool_upd p5 nl7) (newL p5 nl7) ((DpAll.cons h5 .nil).same (wh_upd nl7)) ((Dr.one i5 (by decide) (by decide) ha br5).mono hr1) (lg5 a hs)
end
end Tr

/-! K5 -/
/-! ### the law's rows: items, next places, held locks -/
namespace Tr
open PySem PySem.Spec PyProof.Rows L2 Rw
abbrev Row3 := D × List Nat × List Str
def zip3 (a : List D) (b : List (List Nat)) (c : List (List Str)) : List Row3 := a.zip (b.zip c)
theorem zip3_app {a a' : List D} {b b' : List (List Nat)} {c c' : List (List Str)} (h1 : b.length = a.length) (h2 : c.length = a.length) : zip3 (a ++ a') (b ++ b') (c ++ c') = zip3 a b c ++ zip3 a' b' c' := by
  unfold zip3
  rw [List.zip_append (by rw [h1, h2]), List.zip_append (by rw [List.length_zip]; omega)]
def rowsOf (ds : List D) (s b : Nat) (h : List Str) : List Row3 := zip3 (flat ds) (wa ds s b) (hl ds h)
def rowdOf (d : D) (s f : Nat) (h : List Str) : List Row3 := zip3 (flat [d]) (wo d s f) (h :: hlk d h)
theorem rowsOf_nil (s b : Nat) (h : List Str) : rowsOf [] s b h = [] := by
  unfold rowsOf zip3
  rw [flat]
  rfl
theorem hlk_len (d : D) (h : List Str) : (h :: hlk d h).length = (flat [d]).length := by
  have z := hl_len [d] h
  rw [hl, hl, List.append_nil] at z
  exact z
theorem rowsOf_cons (d : D) (ds : List D) (s b : Nat) (h : List Str) : rowsOf (d :: ds) s b h = rowdOf d s (if ds.isEmpty then b else s + (flat [d]).length) h ++ rowsOf ds (s + (flat [d]).length) b (behindD d h) := by
  unfold rowsOf rowdOf
  have e1 : flat (d :: ds) = flat [d] ++ flat ds := flat_app [d] ds
  have e2 : hl (d :: ds) h = (h :: hlk d h) ++ hl ds (behindD d h) := by rw [hl]; rfl
  rw [e1, e2, wa]
  exact zip3_app (wo_len _ _ _) (hlk_len _ _)
theorem rowdOf_leaf {d : D} (hk : kids d = []) (s f : Nat) (h : List Str) : rowdOf d s f h = [(d, [f], h)] := by
  have hf : forkOf d = none := by
    unfold kids at hk
    cases e : forkOf d with
    | none => rfl
    | some p => rw [e] at hk; cases hk
  unfold rowdOf
  rw [flat_one, (fork_none hf).1, (fork2_none hf).2.1, (fork2_none hf).2.2]
  rfl
theorem rowdOf_fork {d : D} {x y : List D} (hk : kids d = [x, y]) (s f : Nat) (h : List Str) :
    rowdOf d s f h = (d, [if x.isEmpty then f else s + 1, if y.isEmpty then f else s + 1 + (flat x).length], h) :: (rowsOf x (s + 1) f h ++ rowsOf y (s + 1 + (flat x).length) f h) := by
  have hf : forkOf d = some (x, y) := by
    unfold kids at hk
    cases e : forkOf d with
    | none => rw [e] at hk; cases hk
    | some p =>
      obtain ⟨a, b⟩ := p
      rw [e] at hk
      have h1 := (List.cons.inj hk).1
      have h2 := (List.cons.inj (List.cons.inj hk).2).1
      have h1 : a = x := h1
      have h2 : b = y := h2
      rw [h1, h2]
  unfold rowdOf rowsOf
  rw [flat_one, (fork_some hf).1, (fork2_some hf).2.1, (fork2_some hf).2.2]
  have z := zip3_app (a := flat x) (a' := flat y) (b := wa x (s + 1) f) (b' := wa y (s + 1 + (flat x).length) f) (c := hl x h) (c' := hl y h) (wa_len _ _ _) (hl_len _ _)
  rw [← z]
  rfl
theorem rowsOf_len (ds : List D) (s b : Nat) (h : List Str) : (rowsOf ds s b h).length = (flat ds).length := by
  unfold rowsOf zip3
  rw [List.length_zip, List.length_zip, wa_len, hl_len]
  omega
/-- the names held behind the first items -/
def heldTo (ds : List D) (h : List Str) : List Str := ds.foldl (fun t d => behindD d t) h
theorem heldTo_snoc (ds : List D) (d : D) (h : List Str) : heldTo (ds ++ [d]) h = behindD d (heldTo ds h) := by
  unfold heldTo
  rw [List.foldl_append]
  rfl
/-- a row of the law's list: item, next places, held locks -/
def RowT3 (K : PySem.W.Frag) (H0 H : Hp) (v : V) (r : Row3) : Prop := ∃ (p : Addr) (x u1 u2 : V), v = .ref p ∧ SqT K H p [x, u1, u2] ∧ Dp K H0 x r.1 ∧ WayT K H u1 r.2.1 ∧ TxtT K H u2 r.2.2
theorem RowT3.same {K : PySem.W.Frag} {H0 H H' : Hp} (s : Same H H') {v : V} {d : Row3} (h : RowT3 K H0 H v d) : RowT3 K H0 H' v d := let ⟨p, x, u1, u2, e, q, z, a, b⟩ := h; ⟨p, x, u1, u2, e, s.tupS q, z, a.same s, b.same s⟩
theorem RowT3.updL {K : PySem.W.Frag} {H0 H : Hp} {l : Addr} {xs : List V} {u : HO} (hl : H l = some (.lst xs)) {v : V} {d : Row3} (h : RowT3 K H0 H v d) : RowT3 K H0 (upd H l u) v d := let ⟨p, x, u1, u2, e, q, z, a, b⟩ := h; ⟨p, x, u1, u2, e, sqT_updL hl q, z, a.updL hl, b.updL hl⟩
def spLF3 (K : PySem.W.Frag) (n : Nat) : Sp := fun vs H Q _ => ∃ (H0 : Hp) (p : Addr) (s b : Nat) (hv : V) (xs : List V) (ds : List D) (held : List Str), vs = [.ref p, .int (s : Nat), .int (b : Nat), hv] ∧ Same H0 H ∧ SqT K H p xs ∧ DpAll K H0 xs ds ∧ Fits n ds ∧ (∀ d ∈ flat ds, BrOk d) ∧ TxtT K H hv held ∧ held.length + (flat ds).length ≤ 900 ∧
  ∀ H' l ys, Same H H' → H l = none → H' l = some (.lst ys) → All2 (RowT3 K H0 H') ys (rowsOf ds s b held) → Q (.ref l) H'
end Tr

/-! K6 -/
/-! ### the law's flat: whole rows -/
namespace Tr
open PySem PySem.Spec PyProof.Rows L2 Rw
section
variable {P : Program} {w : World} {K : PySem.W.Frag} {mg : Str → Option Value} {base : Heap}
theorem ok_lf3 {f fT fZ : Addr} {fd fdT fdZ : FuncData} (F : Fun K "_law_flat" "_law_flat" sLF f fd) (TX : Called K mg "_law_flat" ["_law_items", "_law_start", "_law_follow", "_law_held"] f fd) (GT : FnOk P w K mg base CX0 1 fT fdT ["_law_item"] (spTu K)) (TT : Called K mg "_law_tuples" ["_law_item"] fT fdT) (TZ : Called K mg "_law_size" ["_law_items"] fZ fdZ)
    (GZa : ∀ n, FnOk P w K mg base CX0 (n + 2) fZ fdZ ["_law_items"] (spSz K n)) (m_enumerate : mg "enumerate" = none) (m_len : mg "len" = none) : ∀ n, n ≤ 40 → FnOk P w K mg base CX0 (n + 3) f fd ["_law_items", "_law_start", "_law_follow", "_law_held"] (spLF3 K n) := by
  intro n
  induction n with
  | zero =>
    intro _
    refine F.ok scLF (fun vs H Q E h => ?_) (fun cdv A outer s H vs Q E hr h => ?_)
    · obtain ⟨H0, p, s, b, hv, xs, ds, held, rfl, _⟩ := h
      rfl
    · obtain ⟨H0, p, s, b, hv, xs, ds, held, rfl, _, _, _, ft, _⟩ := h
      exact absurd ft.dep (Nat.not_lt_zero _)
  | succ n ih =>
    intro hn
    have GX := ih (by omega)
    have GZ := GZa (n + 1)
    refine F.ok scLF (fun vs H Q E h => ?_) (fun cdv A outer s H vs Q E hr h => ?_)
    · obtain ⟨H0, p, s, b, hv, xs, ds, held, rfl, _⟩ := h
      rfl
    · obtain ⟨H0, p, s, b, hv, xs, ds, held, rfl, s0, hp, ha, ft, br, hh, hz, q⟩ := h
      refine ⟨_, (pss_cons (ps_par3 (i := 4) (j := 5) (l := 6) rfl scLF.nd rfl rfl rfl (by decide) (by decide) (by decide) rfl rfl rfl (pa_cons (pe_lst pa_nil) (pa_cons (pv 1) (pa_cons (pv 3) pa_nil))) (by rfl))
       (pss_cons (ps_for PassesOwn.never rfl (pi_enumT rfl m_enumerate (pa_cons (pv 0) pa_nil)) (pg_tup rfl (pgs_cons (pg_name (i := 7) scLF.nd rfl (.inl rfl)) (pgs_cons (pg_name (i := 8) scLF.nd rfl (.inl rfl)) pgs_nil)))
       (pss_cons (ps_par (i := 9) (j := 10) rfl scLF.nd rfl rfl (by decide) rfl rfl (pa_cons (pe_call GZ (hr.mono (by first | decide | omega)) rfl TZ.1 TZ.2.1 TZ.2.2 .nil pass0 (pa_cons (pe_tup (pa_cons (pv 8) pa_nil)) pa_nil)) (pa_cons (pe_call GT (hr.mono (by first | decide | omega)) rfl TT.1 TT.2.1 TT.2.2 .nil pass0 (pa_cons (pv 8) pa_nil)) pa_nil)) (by rfl))
       (pss_cons (ps_set (i := 11) scLF.nd rfl (.inl rfl) (pe_ifExp (pt_cmpR op_lt (pe_op op_add (pv 7) pe_int) (pe_callB (call_len_K (K := K) rfl) (by rfl) m_len PySem.boot_len (pa_cons (pv 0) pa_nil)) (nomark _))
       (pe_op op_add (pv 5) (pv 9))
       (pv 2)))
       (pss_cons (ps_if (pt_cmpR (Nm.op_eqDK (K := K) rfl hr.units) (pv 10) (pe_lst pa_nil) (nomark _))
       (pss_one (ps_expr (pe_bm PySem.F.plainAttrs_list PySem.F.slot_list_append PySem.F.type_list_append mt_append (pv 4) (pa_cons (pe_tup (pa_cons (pv 8) (pa_cons (pe_tup (pa_cons (pv 11) pa_nil)) (pa_cons (pv 6) pa_nil)))) pa_nil))))
       (pss_cons (ps_set (i := 12) scLF.nd rfl (.inl rfl) (pe_op op_add (pe_op op_add (pv 5) pe_int) (pe_call GZ (hr.mono (by first | decide | omega)) rfl TZ.1 TZ.2.1 TZ.2.2 .nil pass0 (pa_cons (pe_ix (ix_listK (K := K) rfl) (pv 10) pe_int (fun _ _ => rfl)) pa_nil))))
       (pss_cons (ps_set (i := 13) scLF.nd rfl (.inl rfl) (pe_tup (pa_cons (pe_ifExp (pt_cmpR (Nm.op_neDK (K := K) rfl hr.units) (pe_ix (ix_listK (K := K) rfl) (pv 10) pe_int (fun _ _ => rfl)) (pe_tup pa_nil) (nomark _))
       (pe_op op_add (pv 5) pe_int)
       (pv 11)) (pa_cons (pe_ifExp (pt_cmpR (Nm.op_neDK (K := K) rfl hr.units) (pe_ix (ix_listK (K := K) rfl) (pv 10) pe_int (fun _ _ => rfl)) (pe_tup pa_nil) (nomark _))
       (pv 12)
       (pv 11)) pa_nil))))
       (pss_cons (ps_set (i := 4) scLF.nd rfl (.inl rfl) (pe_op op_cat (pe_op op_cat (pv 4) (pe_lst (pa_cons (pe_tup (pa_cons (pv 8) (pa_cons (pv 13) (pa_cons (pv 6) pa_nil)))) pa_nil))) (pe_call GX (hr.mono (by first | decide | omega)) rfl TX.1 TX.2.1 TX.2.2 .nil pass0 (pa_cons (pe_ix (ix_listK (K := K) rfl) (pv 10) pe_int (fun _ _ => rfl)) (pa_cons (pe_op op_add (pv 5) pe_int) (pa_cons (pv 11) (pa_cons (pv 6) pa_nil)))))))
       (pss_one (ps_set (i := 4) scLF.nd rfl (.inl rfl) (pe_op op_cat (pv 4) (pe_call GX (hr.mono (by first | decide | omega)) rfl TX.1 TX.2.1 TX.2.2 .nil pass0 (pa_cons (pe_ix (ix_listK (K := K) rfl) (pv 10) pe_int (fun _ _ => rfl)) (pa_cons (pv 12) (pa_cons (pv 11) (pa_cons (pv 6) pa_nil))))))))))))
       (pss_cons (ps_if (pt_cmpR op_eq (pe_ix (ix_tupK (K := K) rfl) (pv 8) pe_int (fun _ _ => rfl)) pe_str (nomark _))
       (pss_one (ps_set (i := 6) scLF.nd rfl (.inl rfl) (pe_op op_catA (pv 6) (pe_tup (pa_cons (pe_ix (ix_tupK (K := K) rfl) (pv 8) pe_int (fun _ _ => rfl)) pa_nil)))))
       pss_nil)
       (pss_cons (ps_if (pt_cmpR op_eq (pe_ix (ix_tupK (K := K) rfl) (pv 8) pe_int (fun _ _ => rfl)) pe_str (nomark _))
       (pss_one (ps_set (i := 6) scLF.nd rfl (.inl rfl) (pe_slice sl_tupA (pv 6) po_none (po_some (pe_un un_neg pe_int)))))
       pss_nil)
       (pss_one (ps_set (i := 5) scLF.nd rfl (.inl rfl) (pe_op op_add (pv 5) (pv 9))))))))))
       (pss_one (ps_ret (pv 4))))), ?_⟩
      have len := dpl ha
      have dlen : ds.length ≤ (flat ds).length := flat_ge ds
      refine ⟨Nat.zero_le _, fun l nl => ?_⟩
      have s1 : Same H (upd H l (.lst [])) := same_upd nl
      refine ⟨_, rfl, _, rfl, _, _, _, rfl, ?_⟩
      refine ⟨_, rfl, p, _, rfl, s1.tupS hp, for_enumT (K := K) (a := p) (xs := xs)
        (fun i σ H' => ∃ (l : Addr) (ys : List V) (dn : List Row3) (ai : Int) (u : V) (t : List Str) (v7 v8 v9 v10 v11 v12 v13 : Option V), σ = [some (.ref p), some (.int (s : Nat)), some (.int (b : Nat)), some hv, some (.ref l), some (.int ai), some u, v7, v8, v9, v10, v11, v12, v13] ∧ Same H H' ∧ H l = none ∧ H' l = some (.lst ys) ∧ All2 (RowT3 K H0 H') ys dn ∧
          TxtT K H' u t ∧ t.length ≤ held.length + i ∧ t = heldTo (ds.take i) held ∧ ai = ((s + (flat (ds.take i)).length : Nat) : Int) ∧ dn ++ rowsOf (ds.drop i) (s + (flat (ds.take i)).length) b t = rowsOf ds s b held)
        ⟨l, [], [], s, hv, held, none, none, none, none, none, none, none, rfl, s1, nl, upd_same, .nil, hh.same s1, Nat.le_refl _, rfl, by rw [List.take_zero, flat]; rfl, by rw [List.take_zero, flat]; rfl⟩ ?_ ?_ ?_⟩
      · rintro i σ H' hi ⟨_, _, _, _, _, _, v7, v8, v9, v10, v11, v12, v13, rfl, sm, _⟩
        exact sm.tupS hp
      · rintro i x σ H1 T1 hxi ⟨l, ys, dn, ai, u, t, v7, v8, v9, v10, v11, v12, v13, rfl, sm, nl, hl, hy, hu, tl, ht, hai, deq⟩ nT
        obtain ⟨d, hd, hx⟩ := dp_get ha hxi
        have mem : d ∈ ds := List.mem_of_getElem? hd
        have hi : i < ds.length := (List.getElem?_eq_some_iff.mp hd).1
        have tk := take_snoc hd
        obtain ⟨a, ha0⟩ : ∃ a : Nat, a = s + (flat (ds.take i)).length := ⟨_, rfl⟩
        rw [← ha0] at hai deq
        subst hai
        have drp : ds.drop i = d :: ds.drop (i + 1) := by
          rw [List.drop_eq_getElem_cons hi]
          have z := (List.getElem?_eq_some_iff.mp hd).2
          rw [z]
        rw [drp, rowsOf_cons] at deq
        obtain ⟨f, hf⟩ : ∃ f : Nat, f = (if (ds.drop (i + 1)).isEmpty then b else a + (flat [d]).length) := ⟨_, rfl⟩
        rw [← hf] at deq
        have dnl : dn.length ≤ (flat ds).length := by
          rw [← rowsOf_len ds s b held, ← deq, List.length_append]
          omega
        have fl1 : flat (ds.take (i + 1)) = flat (ds.take i) ++ (d :: flatk d) := by rw [tk, flat_app, flat_one]
        have sub : ∀ e ∈ flat (ds.take (i + 1)), e ∈ flat ds := fun e he => by
          rw [← List.take_append_drop (i + 1) ds, flat_app]
          exact List.mem_append_left _ he
        have le1 : (flat (ds.take (i + 1))).length ≤ (flat ds).length := by
          have z : (flat ds).length = (flat (ds.take (i + 1))).length + (flat (ds.drop (i + 1))).length := by
            rw [← List.length_append, ← flat_app, List.take_append_drop]
          omega
        have brd : BrOk d := br d (sub d (by rw [fl1]; exact List.mem_append_right _ List.mem_cons_self))
        have brk : ∀ e ∈ flatk d, BrOk e := fun e he => br e (sub e (by rw [fl1]; exact List.mem_append_right _ (List.mem_cons_of_mem _ he)))
        have ftd := ft.mem mem
        have u0 := same_upd (o := .tup [.int (i : Nat), x]) nT
        have sm0 := sm.trans u0
        refine ⟨T1, _, rfl, SqT.of upd_same, rfl, _, _, rfl, _, _, rfl, rfl, ?_⟩
        refine ⟨_, rfl, by show 1 ≤ sizeLine; decide, fun y ny => ?_⟩
        have s4 := same_upd (o := HO.tup [x]) ny
        have t4 := s0.trans (sm0.trans s4)
        refine ⟨H0, y, [x], [d], rfl, t4, SqT.of upd_same, .cons hx .nil, fit_one ftd, fun e he => ?_, fun H5 s5 => ?_⟩
        · rw [flat_one] at he
          rcases List.mem_cons.mp he with rfl | he
          · exact brd
          · exact brk e he
        refine ⟨_, rfl, H0, x, d, rfl, t4.trans s5, hx, brd, fun H6 kl ks s6 nkl hkl hks => ⟨_, _, rfl, ?_⟩⟩
        have sA := (u0.trans s4).trans (s5.trans s6)
        have smA := sm.trans sA
        have hlA := sA _ _ hl
        have hyA : All2 (RowT3 K H0 H6) ys dn := hy.mono fun _ _ z => z.same sA
        have huA := hu.same sA
        dsimp only
        refine seqS_in (asg_via (fun v H' => Same H6 H' ∧ v = .int (f : Nat)) (fun Qx hQ => ?_) (fun v H7 ⟨s7, ev⟩ => ?_))
        · refine ⟨_, rfl, _, _, rfl, rfl, _, rfl, p, _, rfl, .inr (smA.tupS hp), _, _, rfl, rfl, _, rfl, ?_⟩
          by_cases hl1 : ((i : Nat) : Int) + 1 < (xs.length : Nat)
          · rw [decide_eq_true hl1]
            have ef : f = a + (flat [d]).length := by
              rw [hf, if_neg]
              intro z
              have z := List.drop_eq_nil_iff.mp (List.isEmpty_iff.mp z)
              omega
            refine iteT ⟨_, rfl, _, rfl, _, _, rfl, rfl, hQ _ _ ⟨Same.refl _, ?_⟩⟩
            rw [ef]
            rfl
          · rw [decide_eq_false hl1]
            have ef : f = b := by
              rw [hf, if_pos]
              exact List.isEmpty_iff.mpr (List.drop_eq_nil_iff.mpr (by omega))
            refine iteF ⟨_, rfl, hQ _ _ ⟨Same.refl _, ?_⟩⟩
            rw [ef]
        subst ev
        refine name_in ?_
        try dsimp only
        have sm7 := smA.trans s7
        have hl7 := s7 _ _ hlA
        have hy7 : All2 (RowT3 K H0 H7) ys dn := hyA.mono fun _ _ z => z.same s7
        have hu7 := huA.same s7
        have hkl7 := s7 _ _ hkl
        refine seqS_in (ifS_join (fun σ' H' => ∃ (l' : Addr) (ys' : List V) (w12 w13 : Option V), σ' = [some (.ref p), some (.int (s : Nat)), some (.int (b : Nat)), some hv, some (.ref l'), some (.int (a : Nat)), some u, some (.int (i : Nat)), some x, some (.int ((flat [d]).length : Nat)), some (.ref kl), some (.int (f : Nat)), w12, w13] ∧ Same H H' ∧ H l' = none ∧ H' l' = some (.lst ys') ∧ All2 (RowT3 K H0 H') ys' (dn ++ rowdOf d a f t) ∧ TxtT K H' u t) ?_ fun hG => ?_)
        · rintro σ' H8 ⟨l', ys', w12, w13, rfl, sm8, nl8, hl8, hy8, hu8⟩
          obtain ⟨wd, r, rfl, b1, b2, b3⟩ := brd
          cases hx with
          | @tup px xr _ hpx hax =>
          cases hax with
          | @cons x0 xr _ _ h0 hax =>
          cases h0
          have hp8 := (s0.trans sm8).tupS hpx
          try dsimp only
          refine seqS_in (ifS_join (fun σ' H' => ∃ (u' : V), σ' = [some (.ref p), some (.int (s : Nat)), some (.int (b : Nat)), some hv, some (.ref l'), some (.int (a : Nat)), some u', some (.int (i : Nat)), some (.ref px), some (.int ((flat [PyData.tuple (.str wd :: r)]).length : Nat)), some (.ref kl), some (.int (f : Nat)), w12, w13] ∧ Same H8 H' ∧ TxtT K H' u' (if wd = "take" then t ++ [nmD (PyData.tuple (.str wd :: r))] else t)) ?_ fun hG => ?_)
          · rintro σ2 H9 ⟨u', rfl, s9, hu9⟩
            try dsimp only
            refine seqS_in (ifS_join (fun σ' H' => ∃ (u' : V), σ' = [some (.ref p), some (.int (s : Nat)), some (.int (b : Nat)), some hv, some (.ref l'), some (.int (a : Nat)), some u', some (.int (i : Nat)), some (.ref px), some (.int ((flat [PyData.tuple (.str wd :: r)]).length : Nat)), some (.ref kl), some (.int (f : Nat)), w12, w13] ∧ Same H8 H' ∧ TxtT K H' u' (behindD (PyData.tuple (.str wd :: r)) t)) ?_ fun hG => ?_)
            · rintro σ2 H10 ⟨u2, rfl, s10, hu10⟩
              refine ⟨_, rfl, _, rfl, _, _, rfl, rfl, ?_⟩
              have fe : (flat (ds.take (i + 1))).length = (flat (ds.take i)).length + (flat [PyData.tuple (.str wd :: r)]).length := by rw [fl1, flat_one, List.length_append]
              refine ⟨l', ys', dn ++ rowdOf (PyData.tuple (.str wd :: r)) a f t, _, u2, _, _, _, _, _, _, _, _, rfl, sm8.trans s10, nl8, s10 _ _ hl8, hy8.mono fun _ _ z => z.same s10, hu10, ?_, ?_, ?_, ?_⟩
              · have bl : (behindD (PyData.tuple (.str wd :: r)) t).length ≤ t.length + 1 := by
                  unfold behindD
                  split
                  · rw [List.length_append]; exact Nat.le_refl _
                  · split
                    · rw [List.length_dropLast]; omega
                    · omega
                omega
              · rw [tk, heldTo_snoc, ← ht]
              · rw [fe, ha0]; omega
              · rw [fe, List.append_assoc, ← Nat.add_assoc, ← ha0]
                exact deq
            · refine ⟨_, rfl, px, _, _, _, rfl, rfl, s9.tupS hp8, at0, rfl, _, rfl, ?_⟩
              rw [Rw.dec_str]
              by_cases h1 : wd = "give"
              · rw [decide_eq_true h1]
                refine iteT ?_
                refine ⟨_, rfl, _, rfl, _, rfl, ?_⟩
                dsimp only [tNoPart]
                have ng : wd ≠ "take" := by rw [h1]; decide +kernel
                rw [if_neg ng] at hu9
                refine but_last_txt hu9 fun H10 u10 s10 hu10 => ?_
                refine name_in (hG _ _ ⟨u10, rfl, s9.trans s10, ?_⟩)
                unfold behindD
                rw [if_neg (show ¬ wD (PyData.tuple (.str wd :: r)) = "take" from ng), if_pos (show wD (PyData.tuple (.str wd :: r)) = "give" from h1)]
                exact hu10
              · rw [decide_eq_false h1]
                refine iteF (hG _ _ ⟨_, rfl, s9, ?_⟩)
                unfold behindD
                rw [if_neg (show ¬ wD (PyData.tuple (.str wd :: r)) = "give" from h1)]
                exact hu9
          · refine ⟨_, rfl, px, _, _, _, rfl, rfl, hp8, at0, rfl, _, rfl, ?_⟩
            rw [Rw.dec_str]
            by_cases h1 : wd = "take"
            · rw [decide_eq_true h1]
              obtain ⟨n1, r', rfl⟩ := b3 (.inl h1)
              cases hax with
              | @cons x1 xr2 _ _ h0 hax =>
              cases h0
              refine iteT ?_
              refine ⟨_, rfl, _, rfl, px, _, _, _, rfl, rfl, hp8, at1, by show 1 ≤ sizeLine; decide, fun y ny => ?_⟩
              have s9 := same_upd (o := HO.tup [V.str n1]) ny
              refine cat_txt (hu8.same s9) ⟨y, rfl, SqT.of upd_same⟩ (bs := [n1]) (by show t.length + 1 ≤ 1000; omega) fun H9 u9 s10 hu9 => ?_
              exact name_in (hG _ _ ⟨u9, rfl, s9.trans s10, by rw [if_pos h1]; exact hu9⟩)
            · rw [decide_eq_false h1]
              exact iteF (hG _ _ ⟨_, rfl, Same.refl _, by rw [if_neg h1]; exact hu8⟩)
        · refine ⟨_, rfl, Nat.zero_le _, fun ln nln => ?_⟩
          have s8 := same_upd (o := HO.lst []) nln
          have s08 := s0.trans (sm7.trans s8)
          refine ⟨_, _, .lst (SqL.of (s8 _ _ hkl7)) (hks.same s08), .lst (SqL.of upd_same) .nil, kids_shaped ftd (by omega), nilL_shaped, _, rfl, ?_⟩
          rw [eqv_nilL]
          have sm8 := sm7.trans s8
          have hl8 := s8 _ _ hl7
          have hy8 : All2 (RowT3 K H0 (upd H7 ln (.lst []))) ys dn := hy7.mono fun _ _ z => z.same s8
          have hu8 := hu7.same s8
          have hkl8 := s8 _ _ hkl7
          generalize upd H7 ln (.lst []) = H8 at s8 s08 sm8 hl8 hy8 hu8 hkl8
          have yl := hy8.length
          rw [fl1, List.length_append, List.length_cons] at le1
          rcases kids_cnt (d := d) with hk0 | ⟨kx, ky, hk2⟩
          · rw [show (List.map PyData.tuple (kids d)).isEmpty = true by rw [List.eq_nil_of_length_eq_zero hk0]; rfl]
            have fk : flatk d = [] := by rw [flatk_kids, List.eq_nil_of_length_eq_zero hk0]; rfl
            refine iteT ?_
            refine ⟨_, rfl, .inl ⟨rfl, _, SqL.of hl8⟩, _, rfl, _, rfl, by show 1 ≤ sizeLine; decide, fun y1 n1 => ⟨_, rfl, by show 3 ≤ sizeLine; decide, fun y2 n2 => ?_⟩⟩
            have q1 := same_upd (o := HO.tup [V.int (f : Nat)]) n1
            have q2 := same_upd (o := HO.tup [x, V.ref y1, u]) n2
            have q12 := q1.trans q2
            refine ⟨l, _, _, rfl, rfl, q12 _ _ hl8, by rw [sizeLine_eq]; omega, ?_⟩
            refine hG _ _ ⟨l, ys ++ [V.ref y2], v12, v13, rfl, same_updN nl (sm8.trans q12), nl, upd_same, ?_, (hu8.same q12).updL (q12 _ _ hl8)⟩
            rw [rowdOf_leaf (List.eq_nil_of_length_eq_zero hk0)]
            exact (hy8.mono fun _ _ z => (z.same q12).updL (q12 _ _ hl8)).append (.cons ⟨y2, x, _, _, rfl, sqT_updL (q12 _ _ hl8) (SqT.of upd_same), hx, WayT.updL (q12 _ _ hl8) ⟨y1, rfl, SqT.of (q2 _ _ upd_same)⟩, (hu8.same q12).updL (q12 _ _ hl8)⟩ .nil)
          · rw [show (List.map PyData.tuple (kids d)).isEmpty = false by rw [hk2]; rfl]
            rw [hk2] at hks
            have mx : kx ∈ kids d := by rw [hk2]; exact List.mem_cons_self
            have my : ky ∈ kids d := by rw [hk2]; exact List.mem_cons_of_mem _ List.mem_cons_self
            have bk : ∀ z ∈ kids d, ∀ e ∈ flat z, BrOk e := fun z hz e he => brk e ((kid_flat hz).2 e he)
            have fk : flatk d = flat kx ++ flat ky := by rw [flatk_kids, hk2]; simp
            rw [fk, List.length_append] at le1
            cases hks with
            | @cons k1 ks _ _ h1 hk =>
            cases hk with
            | @cons k2 ks _ _ h2 hk =>
            cases hk
            cases h1 with
            | @tup p1 xs1 _ hp1 ha1 =>
            cases h2 with
            | @tup p2 xs2 _ hp2 ha2 =>
            refine iteF ?_
            refine ⟨_, rfl, _, _, rfl, rfl, ?_⟩
            refine ⟨_, rfl, kl, _, _, _, rfl, rfl, SqL.of hkl8, at0, H0, p1, xs1, kx, rfl, s08, s08.tupS hp1, ha1, (kid_fit ftd mx).mono (Nat.le_succ _), bk kx mx, fun H9 s9 => ?_⟩
            refine ⟨_, _, rfl, rfl, ?_⟩
            refine name_in ?_
            try dsimp only
            have s09 := s08.trans s9
            have hkl9 := s9 _ _ hkl8
            refine seqS_in (asg_via (fun v H' => Same H9 H' ∧ WayT K H' v [if kx.isEmpty then f else a + 1, if ky.isEmpty then f else a + 1 + (flat kx).length]) (fun Qx hQ => ?_) (fun v H10 ⟨s10, wv⟩ => ?_))
            · refine ⟨_, rfl, kl, _, _, _, rfl, rfl, SqL.of hkl9, at0, Nat.zero_le _, fun e ne => ?_⟩
              have se := same_upd (o := HO.tup []) ne
              have t9 := s09.trans se
              refine ⟨_, _, .tup (t9.tupS hp1) (ha1.same t9), .tup (SqT.of upd_same) .nil, fits_sh (kid_fit ftd mx) (by omega), nilT_shaped, _, rfl, ?_⟩
              rw [eqv_nilT]
              cases hkx : kx.isEmpty with
              | false =>
                refine iteT ⟨_, rfl, _, _, rfl, rfl, ?_⟩
                refine ⟨_, rfl, kl, _, _, _, rfl, rfl, SqL.of (se _ _ hkl9), at1, Nat.zero_le _, fun e2 ne2 => ?_⟩
                have se2 := same_upd (o := HO.tup []) ne2
                have t10 := t9.trans se2
                refine ⟨_, _, .tup (t10.tupS hp2) (ha2.same t10), .tup (SqT.of upd_same) .nil, fits_sh (kid_fit ftd my) (by omega), nilT_shaped, _, rfl, ?_⟩
                rw [eqv_nilT]
                cases hky : ky.isEmpty with
                | false => exact iteT ⟨_, rfl, by show 2 ≤ sizeLine; decide, fun o no => hQ _ _ ⟨se.trans (se2.trans (same_upd no)), o, rfl, by rw [hkx, hky]; exact SqT.of upd_same⟩⟩
                | true => exact iteF ⟨_, rfl, by show 2 ≤ sizeLine; decide, fun o no => hQ _ _ ⟨se.trans (se2.trans (same_upd no)), o, rfl, by rw [hkx, hky]; exact SqT.of upd_same⟩⟩
              | true =>
                refine iteF ⟨_, rfl, ?_⟩
                refine ⟨_, rfl, kl, _, _, _, rfl, rfl, SqL.of (se _ _ hkl9), at1, Nat.zero_le _, fun e2 ne2 => ?_⟩
                have se2 := same_upd (o := HO.tup []) ne2
                have t10 := t9.trans se2
                refine ⟨_, _, .tup (t10.tupS hp2) (ha2.same t10), .tup (SqT.of upd_same) .nil, fits_sh (kid_fit ftd my) (by omega), nilT_shaped, _, rfl, ?_⟩
                rw [eqv_nilT]
                cases hky : ky.isEmpty with
                | false => exact iteT ⟨_, rfl, by show 2 ≤ sizeLine; decide, fun o no => hQ _ _ ⟨se.trans (se2.trans (same_upd no)), o, rfl, by rw [hkx, hky]; exact SqT.of upd_same⟩⟩
                | true => exact iteF ⟨_, rfl, by show 2 ≤ sizeLine; decide, fun o no => hQ _ _ ⟨se.trans (se2.trans (same_upd no)), o, rfl, by rw [hkx, hky]; exact SqT.of upd_same⟩⟩
            refine name_in ?_
            try dsimp only
            have il : i ≤ (flat (ds.take i)).length := by
              have z := flat_ge (ds.take i)
              rw [List.length_take] at z
              omega
            have c10 := s9.trans s10
            have t10 := s08.trans c10
            have sm10 := sm8.trans c10
            refine ⟨_, rfl, _, rfl, _, rfl, _, rfl, by show 3 ≤ sizeLine; decide, fun y2 n2 => ⟨by show 1 ≤ sizeLine; decide, fun l4 n4 => ?_⟩⟩
            have q1 := same_upd (o := HO.tup [x, v, u]) n2
            have q2 := same_upd (o := HO.lst [V.ref y2]) n4
            have e2 := q2 _ _ (upd_same (H := H10) (a := y2) (o := HO.tup [x, v, u]))
            have e4 : (upd (upd H10 y2 (HO.tup [x, v, u])) l4 (HO.lst [V.ref y2])) l4 = some (.lst [V.ref y2]) := upd_same
            have q12 := c10.trans (q1.trans q2)
            have sm11 := sm8.trans q12
            have q1011 := q1.trans q2
            generalize upd (upd H10 y2 (HO.tup [x, v, u])) l4 (HO.lst [V.ref y2]) = H11 at e2 e4 q12 sm11 q1011
            have t11 := s08.trans q12
            refine ⟨l, l4, _, _, rfl, rfl, q12 _ _ hl8, e4, by rw [sizeLine_eq]; show _ + 1 ≤ _; omega, fun l5 n5 => ?_⟩
            have q5 := same_upd (o := HO.lst (ys ++ [V.ref y2])) n5
            have e5 : (upd H11 l5 (.lst (ys ++ [V.ref y2]))) l5 = some (.lst (ys ++ [V.ref y2])) := upd_same
            have q15 := q12.trans q5
            have e25 := q5 _ _ e2
            have q1210 := q1011.trans q5
            generalize upd H11 l5 (.lst (ys ++ [V.ref y2])) = H12 at q5 e5 q15 e25 q1210
            have t12 := s08.trans q15
            refine ⟨_, rfl, kl, _, _, _, rfl, rfl, SqL.of (q15 _ _ hkl8), at0, _, rfl, _, _, rfl, rfl, _, rfl, _, rfl, H0, p1, a + 1, f, u, xs1, kx, t, rfl, t12, t12.tupS hp1, ha1, kid_fit ftd mx, bk kx mx, hu8.same q15, by omega, fun H13 l6 ys6 s6 n6 h6 hy6 => ?_⟩
            have w6 := hy6.length
            rw [rowsOf_len] at w6
            refine ⟨l5, l6, _, _, rfl, rfl, s6 _ _ e5, h6, by rw [sizeLine_eq, List.length_append]; show _ + 1 + _ ≤ _; omega, fun l7 n7 => ?_⟩
            have q7 := same_upd (o := HO.lst (ys ++ [V.ref y2] ++ ys6)) n7
            have e7 : (upd H13 l7 (.lst (ys ++ [V.ref y2] ++ ys6))) l7 = some (.lst (ys ++ [V.ref y2] ++ ys6)) := upd_same
            have hy7' : All2 (RowT3 K H0 (upd H13 l7 (.lst (ys ++ [V.ref y2] ++ ys6)))) ys6 (rowsOf kx (a + 1) f t) := hy6.mono fun _ _ z => z.same q7
            have q57 := s6.trans q7
            generalize upd H13 l7 (.lst (ys ++ [V.ref y2] ++ ys6)) = H14 at q7 e7 q57 hy7'
            have q17 := q15.trans q57
            have t14 := s08.trans q17
            refine name_in ?_
            try dsimp only
            refine ⟨_, rfl, _, rfl, kl, _, _, _, rfl, rfl, SqL.of (q17 _ _ hkl8), at1, _, rfl, _, rfl, _, rfl, H0, p2, a + 1 + (flat kx).length, f, u, xs2, ky, t, rfl, t14, t14.tupS hp2, ha2, kid_fit ftd my, bk ky my, hu8.same q17, by omega, fun H15 l8 ys8 s8' n8 h8 hy8' => ?_⟩
            have w8 := hy8'.length
            rw [rowsOf_len] at w8
            refine ⟨l7, l8, _, _, rfl, rfl, s8' _ _ e7, h8, by rw [sizeLine_eq, List.length_append, List.length_append]; show _ + 1 + _ + _ ≤ _; omega, fun l9 n9 => ?_⟩
            have q9 := same_upd (o := HO.lst (ys ++ [V.ref y2] ++ ys6 ++ ys8)) n9
            have q89 := s8'.trans q9
            have smF := sm8.trans q17
            refine name_in (hG _ _ ⟨l9, _, _, _, rfl, smF.trans q89, (smF.trans s8').free n9, upd_same, ?_, hu8.same (q17.trans q89)⟩)
            rw [rowdOf_fork hk2]
            have r1 : All2 (RowT3 K H0 (upd H15 l9 (.lst (ys ++ [V.ref y2] ++ ys6 ++ ys8)))) [V.ref y2] [(d, [if kx.isEmpty then f else a + 1, if ky.isEmpty then f else a + 1 + (flat kx).length], t)] := .cons ⟨y2, x, v, u, rfl, SqT.of (q89 _ _ (q57 _ _ e25)), hx, wv.same (q1210.trans (q57.trans q89)), hu8.same (q17.trans q89)⟩ .nil
            have z := (((hy8.mono fun _ _ z => z.same (q17.trans q89)).append r1).append (hy7'.mono fun _ _ z => z.same q89)).append (hy8'.mono fun _ _ z => z.same q9)
            simpa using z
      · rintro σ H1 ⟨l, ys, dn, ai, u, t, v7, v8, v9, v10, v11, v12, v13, rfl, sm, nl, hl, hy, hu, tl, ht, hai, deq⟩
        rw [len, List.drop_length, rowsOf_nil, List.append_nil] at deq
        rw [deq] at hy
        exact ⟨_, rfl, q H1 l ys sm nl hl hy⟩
end
end Tr

/-! K7 -/
/-! ### what the law expects of a body -/
namespace Tr
open PySem PySem.Spec PyProof.Rows L2 Rw
def TopD (K : PySem.W.Frag) (H : Hp) (v : V) (o : Option D) (n : Nat) : Prop := match o with
  | some d => Dp K H v d ∧ FitD n d
  | none => TyX K H v (.type "dict")
theorem TopD.same {K : PySem.W.Frag} {H H' : Hp} (s : Same H H') {v : V} {o : Option D} {n : Nat} (h : TopD K H v o n) : TopD K H' v o n := by
  cases o with
  | none => exact TyX_same s h
  | some d => exact ⟨h.1.same s, h.2⟩
def faultO : Option D → Option V
  | some d => faultB d
  | none => some .non
theorem dict_tup {K : PySem.W.Frag} : PySem.W.kitOne K (.type "dict") (.type "tuple") = some false := kit_ty (by decide +kernel)
section
variable {P : Program} {w : World} {K : PySem.W.Frag} {mg : Str → Option Value} {base : Heap}
end
end Tr

/-! ### Body made; what the law hears -/
namespace L2
open PySem PySem.Spec PyProof.Rows
theorem fnok_or {P : Program} {w : World} {K : PySem.W.Frag} {mg : Str → Option Value} {base : Heap} {CX : CXT} {k : Nat} {f : Addr} {fd : FuncData} {ps : List Str} {sp sq : Sp} (a : FnOk P w K mg base CX k f fd ps sp) (b : FnOk P w K mg base CX k f fd ps sq) : FnOk P w K mg base CX k f fd ps (fun vs H Q E => sp vs H Q E ∨ sq vs H Q E) :=
  ⟨fun vs H Q E h => h.elim (a.len vs H Q E) (b.len vs H Q E), fun A outer s H args us vs Q E hr e0 hb r h => h.elim (a.run A outer s H args us vs Q E hr e0 hb r) (b.run A outer s H args us vs Q E hr e0 hb r)⟩
theorem fnok_of {P : Program} {w : World} {K : PySem.W.Frag} {mg : Str → Option Value} {base : Heap} {CX : CXT} {k : Nat} {f : Addr} {fd : FuncData} {ps : List Str} {sp sq : Sp} (a : FnOk P w K mg base CX k f fd ps sp) (m : ∀ vs H Q E, sq vs H Q E → sp vs H Q E) : FnOk P w K mg base CX k f fd ps sq :=
  ⟨fun vs H Q E h => a.len vs H Q E (m vs H Q E h), fun A outer s H args us vs Q E hr e0 hb r h => a.run A outer s H args us vs Q E hr e0 hb r (m vs H Q E h)⟩
/-- an instance made within a try -/
def tMakeT (C : Addr) (sp : Sp) (E : L2.St → XK) (t : TA) : TE := fun σ H Q => t σ H fun vs H1 => ∀ x dx, H1 x = none → H1 dx = none → dx ≠ x → sp (.ref x :: (vs ++ [])) (upd (upd H1 dx (.own x)) x (.ins C dx [])) (fun v H2 => v = .non ∧ Q (.ref x) H2) (E σ)
section
variable {X : Cx} {CX : CXT} {k : Nat} {f C : Addr} {fd : FuncData} {ps : List Str} {sp : Sp} {E : L2.St → XK} {x : Str} {e : Expr} {es : List Expr} {t : TA} {p pos : Pos}
theorem make_at {e : XK} {pins : List (Addr × Obj)} {σ : L2.St} {H : Hp} {s : Shared} {Q : VK} {us : List Value} {vs : List V} (M : Mk X.K C f) (F : FnOk X.prog X.w X.K X.mg X.base CX k f fd ps sp) (hr : Room (k + 1) X.A) (hb : Binds X.K fd ps []) (hx : PassesAt CX X σ e) (I : Inv X pins σ H s) (r : Vals vs us)
    (h : ∀ x dx, H x = none → H dx = none → dx ≠ x → sp (.ref x :: (vs ++ [])) (upd (upd H dx (.own x)) x (.ins C dx [])) (fun v H2 => v = .non ∧ Q (.ref x) H2) e) : wpAny (model X.prog X.w) X.A (call (.ref C) us) (EP X pins σ Q) X.xe s := by
  have q0 := h (s.heap.objs.size + 1) s.heap.objs.size (I.hok.fresh (Nat.le_succ _)) (I.hok.fresh (Nat.le_refl _)) (Nat.succ_ne_self _).symm
  have J := Inv.made (C := C) I
  have rr : Vals (V.ref (s.heap.objs.size + 1) :: (vs ++ [])) (Value.ref (s.heap.objs.size + 1) :: (us ++ [])) := .cons rfl (r.append .nil)
  have l0 : (Value.ref (s.heap.objs.size + 1) :: us ++ []).length = ps.length := by
    rw [← F.len _ _ _ _ q0]
    exact rr.length.symm
  have bd := hb _ (Value.ref (s.heap.objs.size + 1) :: us) J.kIn l0
  have go := F.run _ X.stack _ _ ⟨Value.ref (s.heap.objs.size + 1) :: us, []⟩ _ _ _ e (hr.make C us []) (J.env0.make C us []) bd rr q0
  refine wpAny_call (make_map (f := f) I.kIn M.makes M.init (beq_iff_eq.mp M.fn) (codeAny_mono go ?_))
  intro res s' hres
  match res, hres with
  | .error er, hres => exact hx pins _ _ er s' J hres
  | .ok (.ret u), hres =>
    obtain ⟨v, H2, I2, rv, rfl, q2⟩ := J.after hres
    exact ⟨rv, ⟨V.ref (s.heap.objs.size + 1), H2, I2, rfl, q2⟩⟩
  | .ok .next, hres => exact hres.elim
  | .ok .brk, hres => exact hres.elim
  | .ok .cont, hres => exact hres.elim
theorem pe_makeT (M : Mk X.K C f) (F : FnOk X.prog X.w X.K X.mg X.base CX k f fd ps sp) (hr : Room (k + 1) X.A) (hg : Gl X x) (hm : X.mg x = some (.ref C)) (hb : Binds X.K fd ps []) (hx : ∀ σ, PassesAt CX X σ (E σ)) (ha : PA X (e :: es) t) (hdb : (x == ("__debug__" : Str)) = false := by decide)
    (he : starEach (e :: es) X.env = (false, eval e X.env) :: starEach es X.env := by rfl) (hpl : (backTo pos (starEach es X.env)).any (·.1) = false := by rfl) : PE X (.Call (.Name x p) (e :: es) [] pos) (tMakeT C sp E t) :=
  ⟨fun pins s σ H Q I h => wpAny_Call_Name_kw (ld_glob I hg hm (PySem.W.callWith_K (h₀ := X.base) I.ok.mod.kin M.kp (thn (ha.run pos pins s σ H _ I h) fun us s1 ⟨vs, H1, I1, r, q⟩ => ⟨I1.kIn, make_at M F hr hb (hx σ) I1 r q⟩) he hpl) hdb)⟩
end
end L2
namespace Tr
open PySem PySem.Spec PyProof.Rows L2 Rw
def spCBd (CI : Addr) (K : PySem.W.Frag) : Sp := fun vs H Q E => ∃ v, vs = [v] ∧ TyX K H v (.type "dict") ∧ ∀ t H', Left H "place" .non t H' → E (.ref CI) (some t) H'
def spCBO (K : PySem.W.Frag) (CI : Addr) (n : Nat) : Sp := fun vs H Q E => ∃ (v : V) (o : Option D), vs = [v] ∧ TopD K H v o n ∧ (faultO o = none → ∀ H', Same H H' → Q .non H') ∧ (∀ r, faultO o = some r → ∀ t H', Left H "place" r t H' → E (.ref CI) (some t) H')
def spIBO (K : PySem.W.Frag) (n : Nat) : Sp := fun vs H Q _ => ∃ (v : V) (o : Option D), vs = [v] ∧ TopD K H v o n ∧ ∀ H', Same H H' → Q (.bl (faultO o).isNone) H'
section
variable {P : Program} {w : World} {K : PySem.W.Frag} {mg : Str → Option Value} {base : Heap}
theorem ok_cbd {f fM fF fW fE CI fI : Addr} {fd fdM fdF fdW fdE fdI : FuncData} (F : Fun K "check_body" "check_body" sCB f fd) (n : Nat) (T : Er P w K mg base "InvalidItem" "place" CI fI fdI)
    (GM : FnOk P w K mg base CX0 (2 * n + 4) fM fdM ["items", "around"] (spMis K n)) (TM : Called K mg "misshapen" ["items", "around"] fM fdM) (GF : FnOk P w K mg base CX0 (n + 2) fF fdF ["items"] (spFlat K n)) (TF : Called K mg "flat" ["items"] fF fdF)
    (GW : FnOk P w K mg base CX0 (n + 2) fW fdW ["items", "around"] (spWLk K n)) (TW : Called K mg "wrong_locks" ["items", "around"] fW fdW) (GE : FnOk P w K mg base (L2.CX P w) 3 fE fdE ["faults"] (spEach K CI)) (TE : Called K mg "check_each" ["faults"] fE fdE)
    (m_isinstance : mg "isinstance" = none) (m_tuple : mg "tuple" = none) (m_len : mg "len" = none) {tM : Tok} (mM : mg "MOST_ITEMS" = some (.int 8 tM)) : FnOk P w K mg base (L2.CX P w) (2 * n + 5) f fd ["value"] (spCBd CI K) := by
  refine F.okX scCB (fun vs H Q E h => ?_) (fun cdv A outer s H vs Q E hr h => ?_)
  · obtain ⟨v, rfl, _⟩ := h
    rfl
  · obtain ⟨v, rfl, ty, qE⟩ := h
    refine ⟨_, (pss_cons (ps_if (PW.pt (pw_or (pt_not (pt_val (pe_callB (call_isiKK (K := K) rfl) (by rfl) m_isinstance (by decide +kernel) (pa_cons (pv 0) (pa_cons (pe_bltn (v := .ty "tuple") (by rfl) m_tuple (by decide +kernel) rfl) pa_nil))))) (pw_or1 (pt_cmpR op_eq (pe_callB (call_len_K (K := K) rfl) (by rfl) m_len PySem.boot_len (pa_cons (pv 0) pa_nil)) pe_int (nomark _)))))
       (pss_one (ps_raise rfl (takes_of rfl rfl rfl rfl) (pmk_G T.o T.F (hr.mono (by first | decide | omega)) T.b pass0 rfl T.g (pa_cons pe_non pa_nil))))
       pss_nil)
       (pss_cons (ps_expr (pe_call GE (hr.mono (by first | decide | omega)) rfl TE.1 TE.2.1 TE.2.2 .nil passX (pa_cons (pe_call GM (hr.mono (by first | decide | omega)) rfl TM.1 TM.2.1 TM.2.2 .nil pass0 (pa_cons (pv 0) (pa_cons pe_int pa_nil))) pa_nil)))
       (pss_cons (ps_if (pt_cmpR op_gt (pe_callB (call_len_K (K := K) rfl) (by rfl) m_len PySem.boot_len (pa_cons (pe_call GF (hr.mono (by first | decide | omega)) rfl TF.1 TF.2.1 TF.2.2 .nil pass0 (pa_cons (pv 0) pa_nil)) pa_nil)) (pe_glob (v := .int 8) rfl mM ⟨_, rfl⟩) (nomark _))
       (pss_one (ps_raise rfl (takes_of rfl rfl rfl rfl) (pmk_G T.o T.F (hr.mono (by first | decide | omega)) T.b pass0 rfl T.g (pa_cons pe_non pa_nil))))
       pss_nil)
       (pss_one (ps_expr (pe_call GE (hr.mono (by first | decide | omega)) rfl TE.1 TE.2.1 TE.2.2 .nil passX (pa_cons (pe_call GW (hr.mono (by first | decide | omega)) rfl TW.1 TW.2.1 TW.2.2 .nil pass0 (pa_cons (pv 0) (pa_cons (pe_tup pa_nil) pa_nil))) pa_nil))))))), ?_⟩
    refine ⟨_, rfl, _, _, _, _, _, rfl, .ty _, ty, dict_tup, _, rfl, ?_⟩
    exact iteT (iteT ⟨Nat.le_of_ble_eq_true rfl, fun x ne => raise1 T.o T.no ne fun t H' l => qE t H' l⟩)
theorem cbo_of {f CI : Addr} {fd : FuncData} {k n : Nat} (a : FnOk P w K mg base (L2.CX P w) k f fd ["value"] (spCB K CI n)) (b : FnOk P w K mg base (L2.CX P w) k f fd ["value"] (spCBd CI K)) : FnOk P w K mg base (L2.CX P w) k f fd ["value"] (spCBO K CI n) :=
  fnok_of (fnok_or a b) fun vs H Q E ⟨v, o, e, hv, q, qE⟩ => by
    cases o with
    | some d => exact .inl ⟨v, d, e, hv.1, hv.2, q, qE⟩
    | none => exact .inr ⟨v, e, hv, qE _ rfl⟩
theorem ok_ibo {f fC CI fI : Addr} {fd fdC fdI : FuncData} (F : Fun K "is_body" "is_body" sIB f fd) (n : Nat) (T : Er P w K mg base "InvalidItem" "place" CI fI fdI) (te : PySem.W.exmOne K (.ref CI) (.ref CI) = some true)
    (GC : FnOk P w K mg base (L2.CX P w) (2 * n + 5) fC fdC ["value"] (spCBO K CI (n + 1))) (TC : Called K mg "check_body" ["value"] fC fdC) : FnOk P w K mg base CX0 (2 * n + 6) f fd ["value"] (spIBO K (n + 1)) := by
  refine F.ok scIB (fun vs H Q E h => ?_) (fun cdv A outer s H vs Q E hr h => ?_)
  · obtain ⟨v, o, rfl, _⟩ := h
    rfl
  · obtain ⟨v, o, rfl, hv, q⟩ := h
    refine ⟨_, pss_cons (ps_try_only rfl rfl ⟨rfl, by decide, .inl T.g⟩ takes0
      (fun W pn xe tk _ => pss_one (ps_expr (pe_callS GC (hr.mono (by first | decide | omega)) rfl TC.1 TC.2.1 TC.2.2 (fun σ => passAt tk σ) (pa_cons (pv 0) pa_nil))))
      (fun a oe cls dd pn hz hf => pss_one (ps_ret pe_bl))) (pss_one (ps_ret pe_bl)), ?_⟩
    refine ⟨_, rfl, v, o, rfl, hv, fun hf H1 s1 => ?_, fun r hr t H1 lf => ⟨true, te, fun _ _ _ => ?_, fun z => nomatch z⟩⟩
    · have z := q H1 s1
      rw [hf] at z
      exact z
    · have z := q H1 lf.1
      rw [hr] at z
      exact z
end
/-- what a class's own instance is not a part of -/
theorem sqL_but {K : PySem.W.Frag} {H H' : Hp} {x C dx a : Addr} {fs : List (Str × V)} {xs : List V} (b : SameBut x H H') (hx : H x = some (.ins C dx fs)) (h : SqL K H a xs) : SqL K H' a xs := by
  rcases h with (h | ⟨ob, h⟩) | h
  · exact .inl (.inl (b _ _ (fun e => by rw [e, hx] at h; cases h) h))
  · exact .inl (.inr ⟨ob, b _ _ (fun e => by rw [e, hx] at h; cases h) h⟩)
  · exact .inr h
mutual
theorem dp_but {K : PySem.W.Frag} {H H' : Hp} {x C dx : Addr} {fs : List (Str × V)} (b : SameBut x H H') (hx : H x = some (.ins C dx fs)) : ∀ (d : D) (v : V), Dp K H v d → Dp K H' v d
  | .none, _, h => by cases h; exact .non
  | .bool _, _, h => by cases h; exact .bl _
  | .int _, _, h => by cases h; exact .int _
  | .str _, _, h => by cases h; exact .str _
  | .list ds, _, h => by
    cases h with
    | lst h1 h2 => exact .lst (sqL_but b hx h1) (dps_but b hx ds _ h2)
  | .tuple ds, _, h => by
    cases h with
    | tup h1 h2 => exact .tup (sqT_but b hx h1) (dps_but b hx ds _ h2)
  | .dict _, _, h => by cases h
theorem dps_but {K : PySem.W.Frag} {H H' : Hp} {x C dx : Addr} {fs : List (Str × V)} (b : SameBut x H H') (hx : H x = some (.ins C dx fs)) : ∀ (ds : List D) (vs : List V), DpAll K H vs ds → DpAll K H' vs ds
  | [], _, h => by cases h; exact .nil
  | d :: ds, _, h => by
    cases h with
    | cons h1 h2 => exact .cons (dp_but b hx d _ h1) (dps_but b hx ds _ h2)
end
theorem txt_but {K : PySem.W.Frag} {H H' : Hp} {x C dx : Addr} {fs : List (Str × V)} (b : SameBut x H H') (hx : H x = some (.ins C dx fs)) {v : V} {ns : List Str} : TxtT K H v ns → TxtT K H' v ns
  | ⟨p, e, q⟩ => ⟨p, e, sqT_but b hx q⟩
theorem WayT.but {K : PySem.W.Frag} {H H' : Hp} {x C dx : Addr} {fs : List (Str × V)} (b : SameBut x H H') (hx : H x = some (.ins C dx fs)) {v : V} {ns : List Nat} (h : WayT K H v ns) : WayT K H' v ns := let ⟨p, e, q⟩ := h; ⟨p, e, sqT_but b hx q⟩
/-- what the top has written of the class Body -/
structure BodyC (K : PySem.W.Frag) (mg : Str → Option Value) (C fI p fc : Addr) : Prop where
  g : mg "Body" = some (.ref C)
  cl : Cls K C
  nC : NoAttr K C "_code"
  nL : NoAttr K C "_listed"
  nW : NoAttr K C "_ways"
  nH : NoAttr K C "_held"
  mkB : Mk K C fI
  pc : PropOf K C "code" p fc
/-- the body of ds stands at a, its code v -/
def IsBody (K : PySem.W.Frag) (C : Addr) (H : Hp) (a : Addr) (v : V) (ds : List D) : Prop := ∃ (dx l1 l2 l3 : Addr) (ys zs us : List V), H a = some (.ins C dx [("_code", v), ("_listed", .ref l1), ("_ways", .ref l2), ("_held", .ref l3)]) ∧ Dp K H v (.tuple ds) ∧
  H l1 = some (.lst ys) ∧ DpAll K H ys (flat ds) ∧ H l2 = some (.lst zs) ∧ All2 (WayT K H) zs (wa ds 0 (flat ds).length) ∧ H l3 = some (.lst us) ∧ All2 (TxtT K H) us (hl ds [] ++ [[]])
theorem IsBody.same {K : PySem.W.Frag} {C : Addr} {H H' : Hp} (s : Same H H') {a : Addr} {v : V} {ds : List D} (h : IsBody K C H a v ds) : IsBody K C H' a v ds := by
  obtain ⟨dx, l1, l2, l3, ys, zs, us, h0, h1, h2, h3, h4, h5, h6, h7⟩ := h
  exact ⟨dx, l1, l2, l3, ys, zs, us, s _ _ h0, h1.same s, s _ _ h2, h3.same s, s _ _ h4, h5.mono fun _ _ z => z.same s, s _ _ h6, h7.mono fun _ _ z => z.same s⟩
theorem fault_tup {o : Option D} (h : faultO o = none) : ∃ ds, o = some (.tuple ds) ∧ (misl ds 0).contains true = false ∧ (flat ds).length ≤ 8 ∧ ds ≠ [] := by
  cases o with
  | none => cases h
  | some d =>
    cases d with
    | tuple ds =>
      have h : faultL ds = none := h
      unfold faultL at h
      split at h
      · cases h
      · next he =>
        split at h
        · cases h
        · next hf =>
          split at h
          · cases h
          · next h8 => exact ⟨ds, rfl, find_none hf, by omega, fun e => he (by rw [e]; rfl)⟩
    | _ => cases h
def spBI (K : PySem.W.Frag) (C CI : Addr) (n : Nat) : Sp := fun vs H Q E => ∃ (x dx : Addr) (v : V) (o : Option D), vs = [.ref x, v] ∧ H x = some (.ins C dx []) ∧ TopD K H v o n ∧
  (faultO o = none → ∀ ds, o = some (.tuple ds) → ∀ H', SameBut x H H' → IsBody K C H' x v ds → Q .non H') ∧ (∀ r, faultO o = some r → ∀ t H', Left H "place" r t H' → E (.ref CI) (some t) H')
section
variable {P : Program} {w : World} {K : PySem.W.Frag} {mg : Str → Option Value} {base : Heap}
abbrev sBI : Stmt := inClass (top 38) 0
theorem scBI : FnScope ["self", "items"] ["self", "items"] (defScope sBI) := ⟨rfl, rfl, rfl, by decide +kernel, rfl, by decide +kernel, by decide +kernel⟩
theorem ok_BI {f fC fF fA fH C CI fI p fc : Addr} {fd fdC fdF fdA fdH : FuncData} (F : Fun K "__init__" "Body.__init__" sBI f fd) (T : BodyC K mg C fI p fc) (n : Nat)
    (GC : FnOk P w K mg base (L2.CX P w) (2 * n + 5) fC fdC ["value"] (spCBO K CI (n + 1))) (TC : Called K mg "check_body" ["value"] fC fdC) (GF : FnOk P w K mg base CX0 (n + 2) fF fdF ["items"] (spFlat K n)) (TF : Called K mg "flat" ["items"] fF fdF)
    (GA : FnOk P w K mg base CX0 (2 * n + 4) fA fdA ["items", "start", "behind"] (spWA K n)) (TA : Called K mg "ways_along" ["items", "start", "behind"] fA fdA) (GH : FnOk P w K mg base CX0 (n + 2) fH fdH ["items", "around"] (spHl K n)) (TH : Called K mg "held_along" ["items", "around"] fH fdH)
    (m_len : mg "len" = none) : FnOk P w K mg base (L2.CX P w) (2 * n + 6) f fd ["self", "items"] (spBI K C CI (n + 1)) := by
  refine F.okX scBI (fun vs H Q E h => ?_) (fun cdv A outer s H vs Q E hr h => ?_)
  · obtain ⟨x, dx, v, o, rfl, _⟩ := h
    rfl
  · obtain ⟨x, dx, v, o, rfl, hx, hv, q, qE⟩ := h
    refine ⟨_, (pss_cons (ps_expr (pe_call GC (hr.mono (by first | decide | omega)) rfl TC.1 TC.2.1 TC.2.2 .nil passX (pa_cons (pv 1) pa_nil)))
       (pss_cons (ps_fld (pv 0) (pv 1) rfl)
       (pss_cons (ps_fld (pv 0) (pe_call GF (hr.mono (by first | decide | omega)) rfl TF.1 TF.2.1 TF.2.2 .nil pass0 (pa_cons (pv 1) pa_nil)) rfl)
       (pss_cons (ps_fld (pv 0) (pe_call GA (hr.mono (by first | decide | omega)) rfl TA.1 TA.2.1 TA.2.2 .nil pass0 (pa_cons (pv 1) (pa_cons pe_int (pa_cons (pe_callB (call_len_K (K := K) rfl) (by rfl) m_len PySem.boot_len (pa_cons (pe_fld (pv 0) rfl) pa_nil)) pa_nil)))) rfl)
       (pss_one (ps_fld (pv 0) (pe_op op_cat (pe_call GH (hr.mono (by first | decide | omega)) rfl TH.1 TH.2.1 TH.2.2 .nil pass0 (pa_cons (pv 1) (pa_cons (pe_tup pa_nil) pa_nil))) (pe_lst (pa_cons (pe_tup pa_nil) pa_nil))) rfl)))))), ?_⟩
    refine ⟨_, rfl, v, o, rfl, hv, fun hf H1 s1 => ?_, fun r hr t H1 lf => qE r hr t H1 lf⟩
    obtain ⟨ds, rfl, hc, h8, _⟩ := fault_tup hf
    have q := q hf ds rfl
    obtain ⟨hd, ft⟩ := hv
    have fin := ft.inside
    have brk : ∀ e ∈ flat ds, BrOk e := fun e he => (br_flat hc e he).1
    cases id hd with
    | @tup pt xs _ hp ha =>
    have hx1 := s1 _ _ hx
    have hp1 := s1.tupS hp
    have ha1 := ha.same s1
    have hd1 := hd.same s1
    -- self._code
    refine ⟨_, rfl, _, rfl, x, C, dx, [], rfl, hx1, T.cl, T.nC, by decide, ?_⟩
    have b1 : SameBut x H1 (upd H1 x (.ins C dx (putF "_code" (.ref pt) []))) := but_upd
    have hx2 : (upd H1 x (.ins C dx (putF "_code" (.ref pt) []))) x = some (.ins C dx [("_code", .ref pt)]) := upd_same
    generalize upd H1 x (.ins C dx (putF "_code" (.ref pt) [])) = H2 at b1 hx2
    -- self._listed
    have hp2 := sqT_but b1 hx1 hp1
    have ha2 := dps_but b1 hx1 _ _ ha1
    have hd2 := dp_but b1 hx1 _ _ hd1
    refine ⟨_, rfl, H2, pt, xs, ds, rfl, Same.refl _, hp2, ha2, fin, brk, fun H3 l1 ys s3 n1 hl1 hy => ?_⟩
    have ly := dpl hy
    have hx3 := s3 _ _ hx2
    refine ⟨_, rfl, x, C, dx, _, rfl, hx3, T.cl, T.nL, by show 1 < 1000; decide, ?_⟩
    have b3 : SameBut x H3 (upd H3 x (.ins C dx (putF "_listed" (.ref l1) [("_code", .ref pt)]))) := but_upd
    have hx4 : (upd H3 x (.ins C dx (putF "_listed" (.ref l1) [("_code", .ref pt)]))) x = some (.ins C dx [("_code", .ref pt), ("_listed", .ref l1)]) := upd_same
    generalize upd H3 x (.ins C dx (putF "_listed" (.ref l1) [("_code", .ref pt)])) = H4 at b3 hx4
    have hl4 := b3 _ _ (ne_of_ins hx3 hl1) hl1
    have hy4 := dps_but b3 hx3 _ _ (hy.same s3)
    have hp4 := sqT_but b3 hx3 (s3.tupS hp2)
    have ha4 := dps_but b3 hx3 _ _ (ha2.same s3)
    have hd4 := dp_but b3 hx3 _ _ (hd2.same s3)
    -- self._ways
    refine ⟨_, rfl, _, rfl, x, C, dx, _, _, rfl, hx4, T.cl, T.nL, rfl, l1, _, rfl, .inl (SqL.of hl4), pt, xs, ds, 0, ys.length, rfl, hp4, ha4, fin, brk, by omega, fun H5 l2 zs s5 n2 hl2 hz => ?_⟩
    rw [ly] at hz
    have hx5 := s5 _ _ hx4
    refine ⟨_, rfl, x, C, dx, _, rfl, hx5, T.cl, T.nW, by show 2 < 1000; decide, ?_⟩
    have b5 : SameBut x H5 (upd H5 x (.ins C dx (putF "_ways" (.ref l2) [("_code", .ref pt), ("_listed", .ref l1)]))) := but_upd
    have hx6 : (upd H5 x (.ins C dx (putF "_ways" (.ref l2) [("_code", .ref pt), ("_listed", .ref l1)]))) x = some (.ins C dx [("_code", .ref pt), ("_listed", .ref l1), ("_ways", .ref l2)]) := upd_same
    generalize upd H5 x (.ins C dx (putF "_ways" (.ref l2) [("_code", .ref pt), ("_listed", .ref l1)])) = H6 at b5 hx6
    have hl46 := b5 _ _ (ne_of_ins hx5 (s5 _ _ hl4)) (s5 _ _ hl4)
    have hy6 := dps_but b5 hx5 _ _ (hy4.same s5)
    have hp6 := sqT_but b5 hx5 (s5.tupS hp4)
    have ha6 := dps_but b5 hx5 _ _ (ha4.same s5)
    have hd6 := dp_but b5 hx5 _ _ (hd4.same s5)
    have hl26 := b5 _ _ (ne_of_ins hx5 hl2) hl2
    have hz6 := hz.mono fun _ _ z => WayT.but b5 hx5 z
    -- self._held
    refine ⟨_, rfl, Nat.zero_le _, fun z nz => ?_⟩
    have s6 := same_upd (o := HO.tup []) nz
    refine ⟨pt, .ref z, xs, ds, [], rfl, s6.tupS hp6, ha6.same s6, fin, brk, ⟨z, rfl, SqT.of upd_same⟩, by rw [List.length_nil]; omega, fun H7 l3 us s7 n3 hl3 hu => ?_⟩
    have lu := hu.length
    rw [hl_len] at lu
    refine ⟨Nat.zero_le _, fun z1 nz1 => ⟨by show 1 ≤ sizeLine; decide, fun l4 nl4 => ?_⟩⟩
    have s8 := same_upd (o := HO.tup []) nz1
    have s9 := same_upd (o := HO.lst [V.ref z1]) nl4
    have s89 := s8.trans s9
    have t1 : TxtT K (upd (upd H7 z1 (HO.tup [])) l4 (HO.lst [V.ref z1])) (.ref z1) [] := ⟨z1, rfl, SqT.of (s9 _ _ upd_same)⟩
    have e9 : (upd (upd H7 z1 (HO.tup [])) l4 (HO.lst [V.ref z1])) l4 = some (.lst [V.ref z1]) := upd_same
    generalize upd (upd H7 z1 (HO.tup [])) l4 (HO.lst [V.ref z1]) = H9 at s9 s89 t1 e9
    refine ⟨l3, l4, us, _, rfl, rfl, s89 _ _ hl3, e9, by rw [sizeLine_eq]; show us.length + 1 ≤ _; omega, fun l5 n5 => ?_⟩
    have s10 := same_upd (o := HO.lst (us ++ [V.ref z1])) n5
    have e10 : (upd H9 l5 (.lst (us ++ [V.ref z1]))) l5 = some (.lst (us ++ [V.ref z1])) := upd_same
    generalize upd H9 l5 (.lst (us ++ [V.ref z1])) = H10 at s10 e10
    have s710 := s89.trans s10
    have s610 := (s6.trans s7).trans s710
    have hx10 := s610 _ _ hx6
    refine ⟨_, rfl, x, C, dx, _, rfl, hx10, T.cl, T.nH, by show 3 < 1000; decide, ?_⟩
    have b10 : SameBut x H10 (upd H10 x (.ins C dx (putF "_held" (.ref l5) [("_code", .ref pt), ("_listed", .ref l1), ("_ways", .ref l2)]))) := but_upd
    have b : SameBut x H (upd H10 x (.ins C dx (putF "_held" (.ref l5) [("_code", .ref pt), ("_listed", .ref l1), ("_ways", .ref l2)]))) := (but_of s1).trans (b1.trans ((but_of s3).trans (b3.trans ((but_of s5).trans (b5.trans ((but_of s610).trans b10))))))
    refine q _ b ⟨dx, l1, l2, l5, ys, zs, us ++ [V.ref z1], upd_same, dp_but b10 hx10 _ _ (hd6.same s610), b10 _ _ (ne_of_ins hx10 (s610 _ _ hl46)) (s610 _ _ hl46), dps_but b10 hx10 _ _ (hy6.same s610), b10 _ _ (ne_of_ins hx10 (s610 _ _ hl26)) (s610 _ _ hl26), hz6.mono fun _ _ z => WayT.but b10 hx10 (z.same s610), b10 _ _ (ne_of_ins hx10 e10) e10, ?_⟩
    exact ((hu.mono fun _ _ t => t.same s710).append (.cons (t1.same s10) .nil)).mono fun _ _ t => txt_but b10 hx10 t
abbrev sCo : Stmt := inClass (top 38) 1
theorem scCo : FnScope ["self"] ["self"] (defScope sCo) := ⟨rfl, rfl, rfl, by decide +kernel, rfl, by decide +kernel, by decide +kernel⟩
theorem ok_Co {f C : Addr} {fd : FuncData} (F : Fun K "code" "Body.code" sCo f fd) (cl : Cls K C) (n : NoAttr K C "_code") : FnOk P w K mg base CX0 1 f fd ["self"] (getSp C "_code") := by
  obtain ⟨oc, od, kV, doc, pm, an, cdv, ct, osl, rfl, lk, hcd⟩ := F.ex
  exact fn_getter lk hcd scCo rfl rfl cl n
end
end Tr

/-! K8 -/
/-! ### a row's own operators -/
namespace Rw
open PySem PySem.Spec PyProof.Rows L2
def oddI : List String := ["NoneType", "str", "tuple", "list", "dict"]
/-- whether a value is an index below m -/
inductive IxV (K : PySem.W.Frag) (H : Hp) (m : Int) : V → Bool → Prop
  | int (i : Int) : IxV K H m (.int i) (decide (0 ≤ i) && decide (i < m))
  | bl (b : Bool) : IxV K H m (.bl b) false
  | other {v : V} {T : String} : TyX K H v (.type T) → T ∈ oddI → IxV K H m v false
theorem IxV.same {K : PySem.W.Frag} {H H' : Hp} (e : Same H H') {m : Int} {v : V} {b : Bool} (h : IxV K H m v b) : IxV K H' m v b := by
  cases h with
  | int i => exact .int i
  | bl b => exact .bl b
  | other t m => exact .other (TyX_same e t) m
def spIx (K : PySem.W.Frag) : Sp := fun vs H Q _ => ∃ (v : V) (m : Int) (b : Bool), vs = [v, .int m] ∧ IxV K H m v b ∧ Q (.bl b) H
section
variable {P : Program} {w : World} {K : PySem.W.Frag} {mg : Str → Option Value} {base : Heap}
abbrev sIxF : Stmt := top 14
theorem scIxF : FnScope ["value", "many"] ["value", "many"] (defScope sIxF) := ⟨rfl, rfl, rfl, by decide +kernel, rfl, by decide +kernel, by decide +kernel⟩
theorem ok_ix {f : Addr} {fd : FuncData} (F : Fun K "is_index" "is_index" sIxF f fd) (m_isinstance : mg "isinstance" = none) (m_int : mg "int" = none) (m_bool : mg "bool" = none) : FnOk P w K mg base CX0 1 f fd ["value", "many"] (spIx K) := by
  refine F.ok scIxF (fun vs H Q E h => ?_) (fun cdv A outer s H vs Q E hr h => ?_)
  · obtain ⟨v, m, b, rfl, _⟩ := h
    rfl
  · obtain ⟨v, m, b, rfl, hv, q⟩ := h
    refine ⟨_, (pss_one (ps_ret (pe_and (pe_callB (call_isiKK (K := K) rfl) (by rfl) m_isinstance (by decide +kernel) (pa_cons (pv 0) (pa_cons (pe_bltn (v := .ty "int") (by rfl) m_int (by decide +kernel) rfl) pa_nil))) (pe_and (pe_not (pe_callB (call_isiKK (K := K) rfl) (by rfl) m_isinstance (by decide +kernel) (pa_cons (pv 0) (pa_cons (pe_bltn (v := .ty "bool") (by rfl) m_bool (by decide +kernel) rfl) pa_nil)))) (pe_one (pe_chain op_le op_lt pe_int (pv 0) (pv 1))))))), ?_⟩
    cases hv with
    | int i =>
      have k1 : PySem.W.kitOne K (.type "int") (.type "int") = some true := kit_ty (by decide +kernel)
      have k2 : PySem.W.kitOne K (.type "int") (.type "bool") = some false := kit_ty (by decide +kernel)
      refine ⟨_, rfl, _, _, _, _, _, rfl, .ty _, .base (.int i), k1, _, rfl, ?_⟩
      refine iteT ?_
      refine ⟨_, rfl, _, _, _, _, _, rfl, .ty _, .base (.int i), k2, _, rfl, ?_⟩
      refine ⟨_, rfl, ?_⟩
      refine iteT ⟨_, rfl, (0 : Int), i, rfl, rfl, _, rfl, ?_⟩
      by_cases h0 : 0 ≤ i
      · rw [decide_eq_true h0] at q ⊢
        exact iteT ⟨_, rfl, i, m, rfl, rfl, q⟩
      · rw [decide_eq_false h0] at q ⊢
        exact iteF q
    | bl b =>
      have k1 : PySem.W.kitOne K (.type "bool") (.type "int") = some true := kit_ty (by decide +kernel)
      have k2 : PySem.W.kitOne K (.type "bool") (.type "bool") = some true := kit_ty (by decide +kernel)
      refine ⟨_, rfl, _, _, _, _, _, rfl, .ty _, .base (.bl b), k1, _, rfl, ?_⟩
      refine iteT ?_
      refine ⟨_, rfl, _, _, _, _, _, rfl, .ty _, .base (.bl b), k2, _, rfl, ?_⟩
      exact ⟨_, rfl, iteF q⟩
    | @other v T ty hT =>
      have kt : PySem.W.kitOne K (.type T) (.type "int") = some false := by
        simp only [oddI, List.mem_cons, List.mem_nil_iff, or_false] at hT
        rcases hT with rfl | rfl | rfl | rfl | rfl <;> exact kit_ty (by decide +kernel)
      refine ⟨_, rfl, _, _, _, _, _, rfl, .ty _, ty, kt, _, rfl, ?_⟩
      exact iteF q
abbrev sINum : Stmt := inClass (top 3) 0
theorem scINum : FnScope ["self", "value"] ["self", "value"] (defScope sINum) := ⟨rfl, rfl, rfl, by decide +kernel, rfl, by decide +kernel, by decide +kernel⟩
theorem ok_INum {f : Addr} {fd : FuncData} (F : Fun K "__init__" "InvalidNumber.__init__" sINum f fd) : FnOk P w K mg base CX0 1 f fd ["self", "value"] (spR1 K "value") := by
  refine F.ok scINum (fun vs H Q E h => ?_) (fun cdv A outer s H vs Q E hr h => ?_)
  · obtain ⟨a, C, fI, v, rfl, _⟩ := h
    rfl
  · obtain ⟨a, C, fI, v, rfl, T, hn, ea, q⟩ := h
    refine ⟨_, pss_one (ps_ostG (pv 0) (pv 1)), ?_⟩
    refine ⟨_, rfl, _, rfl, a, C, fI, rfl, T, hn, .inl ⟨ea, fun dx n ne => ?_⟩⟩
    refine q _ dx (fun b o hb e => ?_) upd_same (by rw [upd_ne ne, upd_same]) n ne
    rw [upd_ne hb, upd_ne (ne_of_none e n)]
    exact e

end
end Rw
/-! ### a body's places -/
namespace Tr
open PySem PySem.Spec PyProof.Rows L2 Rw
theorem IxV.nat {K : PySem.W.Frag} {H : Hp} {m : Int} {v : V} (h : Rw.IxV K H m v true) : ∃ i : Nat, v = .int (i : Nat) ∧ (i : Int) < m := by
  generalize hb : true = b at h
  cases h with
  | int i =>
    have hb := hb.symm
    rw [Bool.and_eq_true] at hb
    have h1 := of_decide_eq_true hb.1
    have h2 := of_decide_eq_true hb.2
    exact ⟨i.toNat, by rw [Int.toNat_of_nonneg h1], by omega⟩
  | bl b => cases hb
  | other _ _ => cases hb
/-- an index below the length of f1's list, into the list of f2 -/
def spAt (K : PySem.W.Frag) (C CN : Addr) (f1 f2 : Str) : Sp := fun vs H Q E => ∃ (a dx l1 l2 : Addr) (fs : List (Str × V)) (v : V) (xs zs : List V) (b : Bool), vs = [.ref a, v] ∧ H a = some (.ins C dx fs) ∧ fs.lookup f1 = some (.ref l1) ∧ H l1 = some (.lst xs) ∧ fs.lookup f2 = some (.ref l2) ∧ H l2 = some (.lst zs) ∧ zs.length = xs.length ∧ Rw.IxV K H (xs.length : Nat) v b ∧
  (b = true → ∀ (i : Nat) (u : V), v = .int (i : Nat) → zs[i]? = some u → Q u H) ∧ (b = false → ∀ t H', Left H "value" v t H' → E (.ref CN) (some t) H')
section
variable {P : Program} {w : World} {K : PySem.W.Frag} {mg : Str → Option Value} {base : Heap}
abbrev sIm : Stmt := inClass (top 38) 5
theorem scIm : FnScope ["self", "place"] ["self", "place"] (defScope sIm) := ⟨rfl, rfl, rfl, by decide +kernel, rfl, by decide +kernel, by decide +kernel⟩
theorem ok_item {f fX C CN fE : Addr} {fd fdX fdE : FuncData} (F : Fun K "item" "Body.item" sIm f fd) (cl : Cls K C) (n1 : NoAttr K C "_listed") (n2 : NoAttr K C "_listed") (GX : FnOk P w K mg base CX0 1 fX fdX ["value", "many"] (Rw.spIx K)) (TX : Called K mg "is_index" ["value", "many"] fX fdX) (T : Er P w K mg base "InvalidNumber" "value" CN fE fdE) (m_len : mg "len" = none) :
    FnOk P w K mg base (L2.CX P w) 3 f fd ["self", "place"] (spAt K C CN "_listed" "_listed") := by
  refine F.okX scIm (fun vs H Q E h => ?_) (fun cdv A outer s H vs Q E hr h => ?_)
  · obtain ⟨a, dx, l1, l2, fs, v, xs, zs, b, rfl, _⟩ := h
    rfl
  · obtain ⟨a, dx, l1, l2, fs, v, xs, zs, b, rfl, ha, hf1, hl1, hf2, hl2, hzx, hv, q, qE⟩ := h
    refine ⟨_, (pss_cons (ps_if (pt_not (pt_val (pe_call GX (hr.mono (by first | decide | omega)) rfl TX.1 TX.2.1 TX.2.2 .nil pass0 (pa_cons (pv 1) (pa_cons (pe_callB (call_len_K (K := K) rfl) (by rfl) m_len PySem.boot_len (pa_cons (pe_fld (pv 0) rfl) pa_nil)) pa_nil)))))
       (pss_one (ps_raise rfl (takes_of rfl rfl rfl rfl) (pmk_G T.o T.F (hr.mono (by decide)) T.b pass0 rfl T.g (pa_cons (pv 1) pa_nil))))
       pss_nil)
       (pss_one (ps_ret (pe_ix (ix_listK (K := K) rfl) (pe_fld (pv 0) rfl) (pv 1) (fun _ _ => rfl))))), ?_⟩
    refine ⟨_, rfl, _, rfl, a, C, dx, fs, _, rfl, ha, cl, n1, hf1, l1, xs, rfl, .inl (SqL.of hl1), v, _, b, rfl, hv, ?_⟩
    refine ⟨_, rfl, ?_⟩
    cases b with
    | true =>
      obtain ⟨i, rfl, hi⟩ := IxV.nat hv
      have hi : i < zs.length := by omega
      refine iteF ?_
      refine ⟨_, rfl, a, C, dx, fs, _, rfl, ha, cl, n2, hf2, _, rfl, l2, zs, _, zs[i], rfl, rfl, SqL.of hl2, atI_nat (List.getElem?_eq_getElem hi), ?_⟩
      exact q rfl i _ rfl (List.getElem?_eq_getElem hi)
    | false => exact iteT ⟨_, rfl, Nat.le_of_ble_eq_true rfl, fun e ne => raise1 T.o T.no ne fun t H' l => qE rfl t H' l⟩
abbrev sNx : Stmt := inClass (top 38) 6
theorem scNx : FnScope ["self", "place"] ["self", "place"] (defScope sNx) := ⟨rfl, rfl, rfl, by decide +kernel, rfl, by decide +kernel, by decide +kernel⟩
theorem ok_nexts {f fX C CN fE : Addr} {fd fdX fdE : FuncData} (F : Fun K "nexts" "Body.nexts" sNx f fd) (cl : Cls K C) (n1 : NoAttr K C "_listed") (n2 : NoAttr K C "_ways") (GX : FnOk P w K mg base CX0 1 fX fdX ["value", "many"] (Rw.spIx K)) (TX : Called K mg "is_index" ["value", "many"] fX fdX) (T : Er P w K mg base "InvalidNumber" "value" CN fE fdE) (m_len : mg "len" = none) :
    FnOk P w K mg base (L2.CX P w) 3 f fd ["self", "place"] (spAt K C CN "_listed" "_ways") := by
  refine F.okX scNx (fun vs H Q E h => ?_) (fun cdv A outer s H vs Q E hr h => ?_)
  · obtain ⟨a, dx, l1, l2, fs, v, xs, zs, b, rfl, _⟩ := h
    rfl
  · obtain ⟨a, dx, l1, l2, fs, v, xs, zs, b, rfl, ha, hf1, hl1, hf2, hl2, hzx, hv, q, qE⟩ := h
    refine ⟨_, (pss_cons (ps_if (pt_not (pt_val (pe_call GX (hr.mono (by first | decide | omega)) rfl TX.1 TX.2.1 TX.2.2 .nil pass0 (pa_cons (pv 1) (pa_cons (pe_callB (call_len_K (K := K) rfl) (by rfl) m_len PySem.boot_len (pa_cons (pe_fld (pv 0) rfl) pa_nil)) pa_nil)))))
       (pss_one (ps_raise rfl (takes_of rfl rfl rfl rfl) (pmk_G T.o T.F (hr.mono (by decide)) T.b pass0 rfl T.g (pa_cons (pv 1) pa_nil))))
       pss_nil)
       (pss_one (ps_ret (pe_ix (ix_listK (K := K) rfl) (pe_fld (pv 0) rfl) (pv 1) (fun _ _ => rfl))))), ?_⟩
    refine ⟨_, rfl, _, rfl, a, C, dx, fs, _, rfl, ha, cl, n1, hf1, l1, xs, rfl, .inl (SqL.of hl1), v, _, b, rfl, hv, ?_⟩
    refine ⟨_, rfl, ?_⟩
    cases b with
    | true =>
      obtain ⟨i, rfl, hi⟩ := IxV.nat hv
      have hi : i < zs.length := by omega
      refine iteF ?_
      refine ⟨_, rfl, a, C, dx, fs, _, rfl, ha, cl, n2, hf2, _, rfl, l2, zs, _, zs[i], rfl, rfl, SqL.of hl2, atI_nat (List.getElem?_eq_getElem hi), ?_⟩
      exact q rfl i _ rfl (List.getElem?_eq_getElem hi)
    | false => exact iteT ⟨_, rfl, Nat.le_of_ble_eq_true rfl, fun e ne => raise1 T.o T.no ne fun t H' l => qE rfl t H' l⟩
abbrev sHd3 : Stmt := inClass (top 38) 7
theorem scHd3 : FnScope ["self", "place"] ["self", "place"] (defScope sHd3) := ⟨rfl, rfl, rfl, by decide +kernel, rfl, by decide +kernel, by decide +kernel⟩
theorem ok_held {f fX C CN fE : Addr} {fd fdX fdE : FuncData} (F : Fun K "held" "Body.held" sHd3 f fd) (cl : Cls K C) (n1 : NoAttr K C "_held") (n2 : NoAttr K C "_held") (GX : FnOk P w K mg base CX0 1 fX fdX ["value", "many"] (Rw.spIx K)) (TX : Called K mg "is_index" ["value", "many"] fX fdX) (T : Er P w K mg base "InvalidNumber" "value" CN fE fdE) (m_len : mg "len" = none) :
    FnOk P w K mg base (L2.CX P w) 3 f fd ["self", "place"] (spAt K C CN "_held" "_held") := by
  refine F.okX scHd3 (fun vs H Q E h => ?_) (fun cdv A outer s H vs Q E hr h => ?_)
  · obtain ⟨a, dx, l1, l2, fs, v, xs, zs, b, rfl, _⟩ := h
    rfl
  · obtain ⟨a, dx, l1, l2, fs, v, xs, zs, b, rfl, ha, hf1, hl1, hf2, hl2, hzx, hv, q, qE⟩ := h
    refine ⟨_, (pss_cons (ps_if (pt_not (pt_val (pe_call GX (hr.mono (by first | decide | omega)) rfl TX.1 TX.2.1 TX.2.2 .nil pass0 (pa_cons (pv 1) (pa_cons (pe_callB (call_len_K (K := K) rfl) (by rfl) m_len PySem.boot_len (pa_cons (pe_fld (pv 0) rfl) pa_nil)) pa_nil)))))
       (pss_one (ps_raise rfl (takes_of rfl rfl rfl rfl) (pmk_G T.o T.F (hr.mono (by decide)) T.b pass0 rfl T.g (pa_cons (pv 1) pa_nil))))
       pss_nil)
       (pss_one (ps_ret (pe_ix (ix_listK (K := K) rfl) (pe_fld (pv 0) rfl) (pv 1) (fun _ _ => rfl))))), ?_⟩
    refine ⟨_, rfl, _, rfl, a, C, dx, fs, _, rfl, ha, cl, n1, hf1, l1, xs, rfl, .inl (SqL.of hl1), v, _, b, rfl, hv, ?_⟩
    refine ⟨_, rfl, ?_⟩
    cases b with
    | true =>
      obtain ⟨i, rfl, hi⟩ := IxV.nat hv
      have hi : i < zs.length := by omega
      refine iteF ?_
      refine ⟨_, rfl, a, C, dx, fs, _, rfl, ha, cl, n2, hf2, _, rfl, l2, zs, _, zs[i], rfl, rfl, SqL.of hl2, atI_nat (List.getElem?_eq_getElem hi), ?_⟩
      exact q rfl i _ rfl (List.getElem?_eq_getElem hi)
    | false => exact iteT ⟨_, rfl, Nat.le_of_ble_eq_true rfl, fun e ne => raise1 T.o T.no ne fun t H' l => qE rfl t H' l⟩
end
end Tr

/-! K9 -/
namespace Rw
open PySem PySem.Spec PyProof.Rows L2
def Shows (K : PySem.W.Frag) (H : Hp) (v : V) (dv : PyData) : Prop := Dq K H v dv ∧ (dv.hasDict = false ∨ dv = .dict []) ∧ dv.showable = true ∧ dv.depth ≤ 40 ∧ dv.shown.length ≤ sizeLine
end Rw
/-! ### odd values, shown -/
namespace Rw
open PySem PySem.Spec PyProof.Rows L2
def itemB (d : PyData) : Bool := !d.hasDict && d.showable && decide (d.depth ≤ 3) && d.leavesShort 13 && decide (d.weight ≤ 40) && PyData.strOk d.shown
theorem use_item : itemB (.tuple [.str "use"]) = true := by decide +kernel
theorem bar_item : itemB (.str "bar") = true := by decide +kernel
theorem none_item : itemB .none = true := by decide +kernel
theorem true_item : itemB (.bool true) = true := by decide +kernel
theorem one_item : itemB (.str "1") = true := by decide +kernel
theorem i1_item : itemB (.int (-1)) = true := by decide +kernel
theorem i7_item : itemB (.int 7) = true := by decide +kernel
theorem i1001_item : itemB (.int 1001) = true := by decide +kernel
theorem big_ok : PyData.strOk (PyData.int (10 ^ 30)).shown = true ∧ (PyData.int (10 ^ 30)).showable = true ∧ (PyData.int (10 ^ 30)).shown.length ≤ 100 := by decide +kernel
theorem ok_app {a b : Str} (h1 : PyData.strOk a = true) (h2 : PyData.strOk b = true) : PyData.strOk (a ++ b) = true := by
  unfold PyData.strOk at *
  show (a.cps ++ b.cps).all _ = true
  rw [Array.all_append, h1, h2]
  rfl
theorem ok_join {sep : Str} (hs : PyData.strOk sep = true) : ∀ l : List Str, (∀ t ∈ l, PyData.strOk t = true) → PyData.strOk (Str.join sep l) = true
  | [], _ => by
    show PyData.strOk Str.empty = true
    decide +kernel
  | [t], h => by
    have z := h t List.mem_cons_self
    simpa [Str.join] using z
  | t :: u :: l, h => by
    have z := ok_join hs (u :: l) fun x hx => h x (List.mem_cons_of_mem _ hx)
    have e : Str.join sep (t :: u :: l) = t ++ sep ++ Str.join sep (u :: l) := by simp [Str.join]
    rw [e]
    exact ok_app (ok_app (h t List.mem_cons_self) hs) z
structure ItB (d : PyData) : Prop where
  hd : d.hasDict = false
  sw : d.showable = true
  dp : d.depth ≤ 3
  lv : d.leavesShort 13 = true
  wt : d.weight ≤ 40
  ok : PyData.strOk d.shown = true
theorem itb {d : PyData} (h : itemB d = true) : ItB d := by
  unfold itemB at h
  simp only [Bool.and_eq_true, Bool.not_eq_true', decide_eq_true_eq] at h
  obtain ⟨⟨⟨⟨⟨a, b⟩, c⟩, d⟩, e⟩, f⟩ := h
  exact ⟨a, b, c, d, e, f⟩
theorem itbAll : ∀ ds : List PyData, (∀ d ∈ ds, ItB d) → PyData.hasDictAll ds = false ∧ PyData.showableAll ds = true ∧ PyData.depthAll ds ≤ 3 ∧ PyData.leavesShortAll 13 ds = true ∧ PyData.weightAll ds ≤ 41 * ds.length ∧ ∀ t ∈ PyData.shownAll ds, PyData.strOk t = true
  | [], _ => ⟨rfl, rfl, Nat.zero_le _, rfl, Nat.le_refl _, fun t ht => by cases ht⟩
  | d :: ds, h => by
    obtain ⟨a, b, c, e, f, g⟩ := itbAll ds fun x hx => h x (List.mem_cons_of_mem _ hx)
    obtain ⟨a1, b1, c1, e1, f1, g1⟩ := h d List.mem_cons_self
    refine ⟨by simp only [PyData.hasDictAll, a, a1]; rfl, by simp only [PyData.showableAll, b, b1]; rfl, ?_, by simp only [PyData.leavesShortAll, e, e1]; rfl, ?_, fun t ht => ?_⟩
    · simp only [PyData.depthAll]
      omega
    · simp only [PyData.weightAll, List.length_cons]
      omega
    · simp only [PyData.shownAll] at ht
      rcases List.mem_cons.mp ht with rfl | ht
      · exact g1
      · exact g t ht
/-- shown, and its text one that lists may hold -/
structure ShowsO (K : PySem.W.Frag) (H : Hp) (v : V) (dv : PyData) : Prop where
  sh : Shows K H v dv
  ok : PyData.strOk dv.shown = true
theorem ShowsO.same {K : PySem.W.Frag} {H H' : Hp} (s : Same H H') {v : V} {dv : PyData} (h : ShowsO K H v dv) : ShowsO K H' v dv := ⟨⟨dq_same s _ _ h.sh.1, h.sh.2⟩, h.ok⟩
theorem shO_item {K : PySem.W.Frag} {H : Hp} {v : V} {d : PyData} (h : ItB d) (q : Dq K H v d) : ShowsO K H v d :=
  ⟨⟨q, .inl h.hd, h.sw, by have := h.dp; omega, PyData.shown_fits (B := 13) (by decide) (by decide) h.lv (by have := h.wt; omega)⟩, h.ok⟩
theorem shO_list {K : PySem.W.Frag} {H : Hp} {p : Addr} {xs : List V} {ds : List PyData} (hn : ds.length ≤ 20) (h : ∀ d ∈ ds, ItB d) (e : SqL K H p xs) (q : DqAll K H xs ds) : ShowsO K H (.ref p) (.list ds) := by
  obtain ⟨a, b, c, e1, f, g⟩ := itbAll ds h
  refine ⟨⟨.lst e q, .inl (by simp only [PyData.hasDict]; exact a), by simp only [PyData.showable]; exact b, by simp only [PyData.depth]; omega, PyData.shown_fits (B := 13) (by decide) (by decide) (by simp only [PyData.leavesShort]; exact e1) (by simp only [PyData.weight]; omega)⟩, ?_⟩
  rw [PyData.shown_list]
  exact ok_app (ok_app (by decide +kernel) (ok_join (by decide +kernel) _ g)) (by decide +kernel)
theorem shO_tup {K : PySem.W.Frag} {H : Hp} {p : Addr} {xs : List V} {ds : List PyData} (hn : ds.length ≤ 20) (h : ∀ d ∈ ds, ItB d) (e : SqT K H p xs) (q : DqAll K H xs ds) : ShowsO K H (.ref p) (.tuple ds) := by
  obtain ⟨a, b, c, e1, f, g⟩ := itbAll ds h
  refine ⟨⟨.tup e q, .inl (by simp only [PyData.hasDict]; exact a), by simp only [PyData.showable]; exact b, by simp only [PyData.depth]; omega, PyData.shown_fits (B := 13) (by decide) (by decide) (by simp only [PyData.leavesShort]; exact e1) (by simp only [PyData.weight]; omega)⟩, ?_⟩
  rw [PyData.shown_tuple]
  refine ok_app (ok_app (by decide +kernel) (ok_join (by decide +kernel) _ g)) ?_
  split <;> decide +kernel
end Rw
/-! ### places that are none -/
namespace Tr
open PySem PySem.Spec PyProof.Rows L2 Rw
theorem body_ins {K : PySem.W.Frag} {C : Addr} {H : Hp} {a : Addr} {v : V} {ds : List D} (h : IsBody K C H a v ds) : ∃ (dx : Addr) (fs : List (Str × V)), H a = some (.ins C dx fs) ∧ fs.lookup ("item" : Str) = none ∧ fs.lookup ("nexts" : Str) = none ∧ fs.lookup ("held" : Str) = none := by
  obtain ⟨dx, l1, l2, l3, ys, zs, us, h0, _⟩ := h
  exact ⟨dx, _, h0, rfl, rfl, rfl⟩
theorem body_listed {K : PySem.W.Frag} {C CN : Addr} {H : Hp} {a : Addr} {bv v : V} {ds : List D} {b : Bool} {Q : VK} {E : XK} (h : IsBody K C H a bv ds) (hv : Rw.IxV K H ((flat ds).length : Nat) v b) (q : b = true → ∀ (i : Nat) (u : V) (d : D), v = .int (i : Nat) → (flat ds)[i]? = some d → Dp K H u d → Q u H) (qE : b = false → ∀ t H', Left H "value" v t H' → E (.ref CN) (some t) H') :
    spAt K C CN "_listed" "_listed" [.ref a, v] H Q E := by
  obtain ⟨dx, l1, l2, l3, ys, zs, us, h0, h1, h2, h3, h4, h5, h6, h7⟩ := h
  have ly := dpl h3
  refine ⟨a, dx, l1, l1, _, v, ys, ys, b, rfl, h0, rfl, h2, rfl, h2, rfl, by rw [ly]; exact hv, fun hb i u ev hu => ?_, qE⟩
  obtain ⟨d, hd, hud⟩ := dp_get h3 hu
  exact q hb i u d ev hd hud
theorem body_ways {K : PySem.W.Frag} {C CN : Addr} {H : Hp} {a : Addr} {bv v : V} {ds : List D} {b : Bool} {Q : VK} {E : XK} (h : IsBody K C H a bv ds) (hv : Rw.IxV K H ((flat ds).length : Nat) v b) (q : b = true → ∀ (i : Nat) (u : V) (ns : List Nat), v = .int (i : Nat) → (wa ds 0 (flat ds).length)[i]? = some ns → WayT K H u ns → Q u H) (qE : b = false → ∀ t H', Left H "value" v t H' → E (.ref CN) (some t) H') :
    spAt K C CN "_listed" "_ways" [.ref a, v] H Q E := by
  obtain ⟨dx, l1, l2, l3, ys, zs, us, h0, h1, h2, h3, h4, h5, h6, h7⟩ := h
  have ly := dpl h3
  have lz := h5.length
  rw [wa_len] at lz
  refine ⟨a, dx, l1, l2, _, v, ys, zs, b, rfl, h0, rfl, h2, rfl, h4, by rw [ly, lz], by rw [ly]; exact hv, fun hb i u ev hu => ?_, qE⟩
  obtain ⟨ns, hd, hud⟩ := h5.get hu
  exact q hb i u ns ev hd hud
theorem body_held {K : PySem.W.Frag} {C CN : Addr} {H : Hp} {a : Addr} {bv v : V} {ds : List D} {b : Bool} {Q : VK} {E : XK} (h : IsBody K C H a bv ds) (hv : Rw.IxV K H (((flat ds).length + 1 : Nat) : Int) v b) (q : b = true → ∀ (i : Nat) (u : V) (ns : List Str), v = .int (i : Nat) → (hl ds [] ++ [[]])[i]? = some ns → TxtT K H u ns → Q u H) (qE : b = false → ∀ t H', Left H "value" v t H' → E (.ref CN) (some t) H') :
    spAt K C CN "_held" "_held" [.ref a, v] H Q E := by
  obtain ⟨dx, l1, l2, l3, ys, zs, us, h0, h1, h2, h3, h4, h5, h6, h7⟩ := h
  have lu := h7.length
  rw [List.length_append, hl_len] at lu
  refine ⟨a, dx, l3, l3, _, v, us, us, b, rfl, h0, rfl, h6, rfl, h6, rfl, by rw [lu]; exact hv, fun hb i u ev hu => ?_, qE⟩
  obtain ⟨ns, hd, hud⟩ := h7.get hu
  exact q hb i u ns ev hd hud
def boundW (way : Nat) (ds : List D) : Nat := if way = 2 then (flat ds).length + 1 else (flat ds).length
/-- a place that is none -/
def spNoAt (K : PySem.W.Frag) (C : Addr) : Sp := fun vs H Q _ => ∃ (a : Addr) (way : Nat) (bv v : V) (ds : List D) (dv : PyData), vs = [.ref a, .int (way : Nat), v] ∧ way < 3 ∧ IsBody K C H a bv ds ∧ Rw.IxV K H (boundW way ds : Nat) v false ∧ ShowsO K H v dv ∧
  ∀ H' p, Same H H' → H p = none → H' p = some (.lst [.str "none", .str dv.shown]) → Q (.ref p) H'
section
variable {P : Program} {w : World} {K : PySem.W.Frag} {mg : Str → Option Value} {base : Heap}
abbrev sAtL : Stmt := top 53
theorem scAtL : FnScope ["_law_body", "_law_way", "_law_place", "e"] ["_law_body", "_law_way", "_law_place"] (defScope sAtL) := ⟨rfl, rfl, rfl, by decide +kernel, rfl, by decide +kernel, by decide +kernel⟩
theorem ok_atl {f fI fN fH C CN fE : Addr} {fd fdI fdN fdH fdE : FuncData} (F : Fun K "_law_at" "_law_at" sAtL f fd) (cl : Cls K C) (T : Er P w K mg base "InvalidNumber" "value" CN fE fdE) (te : PySem.W.exmOne K (.ref CN) (.ref CN) = some true)
    (GI : FnOk P w K mg base (L2.CX P w) 3 fI fdI ["self", "place"] (spAt K C CN "_listed" "_listed")) (bI : Binds K fdI ["self", "place"] []) (mI : Meth K C "item" fI)
    (GN : FnOk P w K mg base (L2.CX P w) 3 fN fdN ["self", "place"] (spAt K C CN "_listed" "_ways")) (bN : Binds K fdN ["self", "place"] []) (mN : Meth K C "nexts" fN)
    (GH : FnOk P w K mg base (L2.CX P w) 3 fH fdH ["self", "place"] (spAt K C CN "_held" "_held")) (bH : Binds K fdH ["self", "place"] []) (mH : Meth K C "held" fH) (m_repr : mg "repr" = none) : FnOkG P w K mg base CX0 4 f fd ["_law_body", "_law_way", "_law_place"] (spNoAt K C) := by
  refine F.okG scAtL (fun vs H Q E h => ?_) (fun cdv A outer s H vs Q E hgd hr h => ?_)
  · obtain ⟨a, way, bv, v, ds, dv, rfl, _⟩ := h
    rfl
  · obtain ⟨a, way, bv, v, ds, dv, rfl, hway, hb, hv, sh, q⟩ := h
    refine ⟨_, pss_one (ps_try_as (i := 3) rfl rfl scAtL.nd rfl rfl ⟨rfl, by decide, .inl T.g⟩ takes0
      (fun W pn xe tk _ => pss_cons (ps_if (pt_cmpR op_eq (pv 1) pe_int (nomark _)) (pss_one (ps_ret (pe_methT (pv 0) cl mI GI hr bI (fun σ => passAt tk σ) (pa_cons (pv 2) pa_nil)))) pss_nil)
        (pss_one (ps_ret (pe_ifExp (pt_cmpR op_eq (pv 1) pe_int (nomark _)) (pe_methT (pv 0) cl mN GN hr bN (fun σ => passAt tk σ) (pa_cons (pv 2) pa_nil))
          (pe_methT (pv 0) cl mH GH hr bH (fun σ => passAt tk σ) (pa_cons (pv 2) pa_nil))))))
      (fun a oe cls dd pn hz hf => pss_one (ps_ret (pe_lst (pa_cons pe_str (pa_cons (pe_callB (call_reprDK (K := K) rfl hgd hr.units) (by rfl) m_repr (by decide +kernel) (pa_cons (pe_xf (xf_of T.o) T.no hz hf (pv 3)) pa_nil)) pa_nil)))))), ?_⟩
    obtain ⟨dx, fs, k0, k1, k2, k3⟩ := body_ins hb
    obtain ⟨g1, g2, g3, g4, g5⟩ := sh.sh
    refine ⟨_, rfl, rfl, _, rfl, ?_⟩
    match way, hway with
    | 0, _ =>
      rw [show decide (V.int ((0 : Nat) : Int) = V.int 0) = true from decide_eq_true rfl]
      refine iteT ⟨_, rfl, a, dx, fs, rfl, k0, k1, _, rfl, body_listed hb hv (fun z => nomatch z) fun _ t H1 lf => ⟨true, te, fun _ e ne => ?_, fun z => nomatch z⟩⟩
      obtain ⟨s1, nt, ht⟩ := lf
      exact ⟨_, rfl, rfl, rfl, t, _, v, rfl, ht, rfl, v, dv, rfl, dq_same s1 _ _ g1, g2, g3, g4, g5, by show 2 ≤ sizeLine; decide, fun p np => q _ _ (s1.trans (same_upd np)) (s1.free np) upd_same⟩
    | 1, _ =>
      rw [show decide (V.int ((1 : Nat) : Int) = V.int 0) = false from decide_eq_false (fun z => by cases z)]
      refine iteF ?_
      dsimp only [tNext]
      refine ⟨_, rfl, rfl, _, rfl, ?_⟩
      rw [show decide (V.int ((1 : Nat) : Int) = V.int 1) = true from decide_eq_true rfl]
      refine iteT ⟨_, rfl, a, dx, fs, rfl, k0, k2, _, rfl, body_ways hb hv (fun z => nomatch z) fun _ t H1 lf => ⟨true, te, fun _ e ne => ?_, fun z => nomatch z⟩⟩
      obtain ⟨s1, nt, ht⟩ := lf
      exact ⟨_, rfl, rfl, rfl, t, _, v, rfl, ht, rfl, v, dv, rfl, dq_same s1 _ _ g1, g2, g3, g4, g5, by show 2 ≤ sizeLine; decide, fun p np => q _ _ (s1.trans (same_upd np)) (s1.free np) upd_same⟩
    | 2, _ =>
      rw [show decide (V.int ((2 : Nat) : Int) = V.int 0) = false from decide_eq_false (fun z => by cases z)]
      refine iteF ?_
      dsimp only [tNext]
      refine ⟨_, rfl, rfl, _, rfl, ?_⟩
      rw [show decide (V.int ((2 : Nat) : Int) = V.int 1) = false from decide_eq_false (fun z => by cases z)]
      refine iteF ⟨_, rfl, a, dx, fs, rfl, k0, k3, _, rfl, body_held hb hv (fun z => nomatch z) fun _ t H1 lf => ⟨true, te, fun _ e ne => ?_, fun z => nomatch z⟩⟩
      obtain ⟨s1, nt, ht⟩ := lf
      exact ⟨_, rfl, rfl, rfl, t, _, v, rfl, ht, rfl, v, dv, rfl, dq_same s1 _ _ g1, g2, g3, g4, g5, by show 2 ≤ sizeLine; decide, fun p np => q _ _ (s1.trans (same_upd np)) (s1.free np) upd_same⟩
end
end Tr

/-! K10 -/
namespace Rw
open PySem PySem.Spec PyProof.Rows L2
theorem ix_no {K : PySem.W.Frag} {H : Hp} {i m : Int} (h : i < 0 ∨ m ≤ i) : IxV K H m (.int i) false := by
  have z := IxV.int (K := K) (H := H) (m := m) i
  have e : (decide (0 ≤ i) && decide (i < m)) = false := by
    rw [Bool.and_eq_false_iff]
    rcases h with h | h
    · exact .inl (decide_eq_false (by omega))
    · exact .inr (decide_eq_false (by omega))
  rwa [e] at z
theorem ix_yes {K : PySem.W.Frag} {H : Hp} {i m : Int} (h0 : 0 ≤ i) (h1 : i < m) : IxV K H m (.int i) true := by
  have z := IxV.int (K := K) (H := H) (m := m) i
  rwa [decide_eq_true h0, decide_eq_true h1] at z
theorem ne_two {K : PySem.W.Frag} {H : Hp} {p r : Addr} {a b : Str} (ha : sOk a) (hb : sOk b) (e1 : H p = some (.lst [.str a, .str b])) (e2 : H r = some (.lst [.str a, .str b])) {Q : VK} (q : Q (.bl false) H) : rNeD K (.ref p) (.ref r) H Q := by
  have ok : ∀ n ∈ [a, b], sOk n := fun n hn => by
    rcases List.mem_cons.mp hn with rfl | hn
    · exact ha
    · rw [List.mem_singleton.mp hn]; exact hb
  refine ⟨.list ([a, b].map PyData.str), .list ([a, b].map PyData.str), .lst (SqL.of e1) (dp_txts [a, b]), .lst (SqL.of e2) (dp_txts [a, b]), listD_shaped ok, listD_shaped ok, ?_⟩
  rw [eqv_list_txt, decide_eq_true rfl]
  exact q
theorem none_ok : sOk "none" := by decide +kernel
theorem next_in {D : Ends} {σ : L2.St} {H : Hp} (h : D.nx σ H) : tNext D σ H := h
/-- what stands on the right of a comparison: the word, the value shown -/
theorem said {K : PySem.W.Frag} {i : Nat} {σ : L2.St} {H : Hp} {Q : VK} {a : Str} {v : V} {dv : PyData} (hv : σ[i]? = some (some v)) (h : ShowsO K H v dv) (q : ∀ p, H p = none → Q (.ref p) (upd H p (.lst [.str a, .str dv.shown]))) :
    tLst (tCons (tC (.str a)) (tCons (tCB (rReprD K) (tCons (tVar i) tNil)) tNil)) σ H Q :=
  ⟨v, hv, v, dv, rfl, h.sh.1, h.sh.2.1, h.sh.2.2.1, h.sh.2.2.2.1, h.sh.2.2.2.2, by show 2 ≤ sizeLine; decide, q⟩
end Rw
/-! ### no place -/
namespace Tr
open PySem PySem.Spec PyProof.Rows L2 Rw
theorem ret_in {te : TE} {D : Ends} {σ : L2.St} {H : Hp} (h : te σ H D.rt) : tRet te D σ H := h
theorem few_item : ∀ n : Nat, n < 10 → itemB (.int (n : Int)) = true := by decide +kernel
theorem zero_item : itemB (.str "0") = true := by decide +kernel
structure OddP (K : PySem.W.Frag) (m : Nat) (H : Hp) (v : V) : Prop where
  a : Rw.IxV K H (m : Nat) v false
  b : Rw.IxV K H ((m + 1 : Nat) : Int) v false
  sh : ∃ dv, ShowsO K H v dv
theorem OddP.same {K : PySem.W.Frag} {m : Nat} {H H' : Hp} (s : Same H H') {v : V} (h : OddP K m H v) : OddP K m H' v := ⟨h.a.same s, h.b.same s, let ⟨dv, z⟩ := h.sh; ⟨dv, z.same s⟩⟩
theorem OddP.at {K : PySem.W.Frag} {H : Hp} {v : V} {ds : List D} (h : OddP K (flat ds).length H v) (way : Nat) : Rw.IxV K H (boundW way ds : Nat) v false := by
  unfold boundW
  split
  · exact h.b
  · exact h.a
theorem eqv_nil : PyData.eqv (.list []) (.list []) = true := by simp [PyData.eqv, PyData.eqvAll]
def spNoPl (K : PySem.W.Frag) (C : Addr) : Sp := fun vs H Q _ => ∃ (a : Addr) (bv : V) (ds : List D), vs = [.ref a, .int ((flat ds).length : Nat)] ∧ IsBody K C H a bv ds ∧ (flat ds).length ≤ 8 ∧ ∀ H', Same H H' → Q (.bl true) H'
section
variable {P : Program} {w : World} {K : PySem.W.Frag} {mg : Str → Option Value} {base : Heap}
abbrev sNP : Stmt := top 54
theorem scNP : FnScope ["_law_body", "_law_most", "_law_odd", "_law_way"] ["_law_body", "_law_most"] (defScope sNP) := ⟨rfl, rfl, rfl, by decide +kernel, rfl, by decide +kernel, by decide +kernel⟩
theorem ok_nopl {f fA C : Addr} {fd fdA : FuncData} (F : Fun K "_law_no_place" "_law_no_place" sNP f fd) (GA : FnOkG P w K mg base CX0 4 fA fdA ["_law_body", "_law_way", "_law_place"] (spNoAt K C)) (TA : Called K mg "_law_at" ["_law_body", "_law_way", "_law_place"] fA fdA) (m_range : mg "range" = none) (m_repr : mg "repr" = none) :
    FnOkG P w K mg base CX0 5 f fd ["_law_body", "_law_most"] (spNoPl K C) := by
  refine F.okG scNP (fun vs H Q E h => ?_) (fun cdv A outer s H vs Q E hgd hr h => ?_)
  · obtain ⟨a, bv, ds, rfl, _⟩ := h
    rfl
  · obtain ⟨a, bv, ds, rfl, hb, h8, q⟩ := h
    refine ⟨_, (pss_cons (ps_for PassesOwn.never rfl (pi_list (pe_lst (pa_cons (pe_op op_add (pv 1) pe_int) (pa_cons (pe_un un_neg pe_int) (pa_cons pe_non (pa_cons pe_bl (pa_cons pe_str (pa_cons (pe_tup (pa_cons pe_int pa_nil)) (pa_cons (pe_op op_pow pe_int pe_int) (pa_cons (pe_lst (pa_cons (pv 1) pa_nil)) pa_nil)))))))))) (pg_name (i := 2) scNP.nd rfl (.inr rfl))
       (pss_one (ps_if (pt_cmpR (Nm.op_neDK (K := K) rfl (by first | exact hr.units | exact hr.in1.units)) (pe_lc (own := [("_law_way", 3)]) (g := gName 3)  (by rfl) scNP.nd (pi_range1 rfl m_range (pa_cons pe_int pa_nil)) (blkOk_by (own := [("_law_way", 3)]) (N := ["_law_body", "_law_most", "_law_odd", "_law_way"]) (sc := defScope sNP) (by decide +kernel)) (fun _ _ _ _ _ => (pg_name (i := 3) scNP.nd rfl (Or.inl rfl))) (fun _ _ _ _ _ => (pts_one (pt_cmpR (Nm.op_neDK (K := K) rfl (by first | exact hr.units | exact hr.in1.units)) (pe_callG GA hgd (by first | exact hr | exact hr.in1) rfl TA.1 TA.2.1 TA.2.2 pass0 (pa_cons (pv 0) (pa_cons (pv 3) (pa_cons (pv 2) pa_nil)))) (pe_lst (pa_cons pe_str (pa_cons (pe_callB (call_reprDK (K := K) rfl hgd (by first | exact hr.units | exact hr.in1.units)) (by rfl) m_repr (by decide +kernel) (pa_cons (pv 2) pa_nil)) pa_nil))) (nomark _)))) (fun _ _ _ _ _ => (pv 3))) (pe_lst pa_nil) (nomark _))
       (pss_one (ps_ret pe_bl))
       pss_nil)))
       (pss_one (ps_ret (pe_cmpR (Nm.op_eqDK (K := K) rfl (by first | exact hr.units | exact hr.in1.units)) (pe_lc (own := [("_law_way", 3)]) (g := gName 3)  (by rfl) scNP.nd (pi_range1 rfl m_range (pa_cons pe_int pa_nil)) (blkOk_by (own := [("_law_way", 3)]) (N := ["_law_body", "_law_most", "_law_odd", "_law_way"]) (sc := defScope sNP) (by decide +kernel)) (fun _ _ _ _ _ => (pg_name (i := 3) scNP.nd rfl (Or.inl rfl))) (fun _ _ _ _ _ => (pts_one (pt_cmpR (Nm.op_neDK (K := K) rfl (by first | exact hr.units | exact hr.in1.units)) (pe_callG GA hgd (by first | exact hr | exact hr.in1) rfl TA.1 TA.2.1 TA.2.2 pass0 (pa_cons (pv 0) (pa_cons (pv 3) (pa_cons (pv 1) pa_nil)))) (pe_lst (pa_cons pe_str (pa_cons (pe_callB (call_reprDK (K := K) rfl hgd (by first | exact hr.units | exact hr.in1.units)) (by rfl) m_repr (by decide +kernel) (pa_cons (pv 1) pa_nil)) pa_nil))) (nomark _)))) (fun _ _ _ _ _ => (pv 3))) (pe_lst pa_nil) (nomark _))))), ?_⟩
    obtain ⟨L, hL⟩ : ∃ L : Nat, L = (flat ds).length := ⟨_, rfl⟩
    rw [← hL] at h8
    rw [← hL]
    refine ⟨_, rfl, _, _, rfl, rfl, _, rfl, by show 1 ≤ sizeLine; decide, fun p1 n1 => ?_⟩
    have s1 := same_upd (o := HO.tup [V.int 0]) n1
    have e1 : (upd H p1 (.tup [V.int 0])) p1 = some (.tup [V.int 0]) := upd_same
    generalize upd H p1 (.tup [V.int 0]) = H1 at s1 e1
    refine ⟨_, _, rfl, rfl, ⟨by decide, by decide, by decide⟩, _, rfl, by show 1 ≤ sizeLine; decide, fun p2 n2 => ?_⟩
    have s2 := same_upd (o := HO.lst [V.int (L : Nat)]) n2
    have e2 : (upd H1 p2 (.lst [V.int (L : Nat)])) p2 = some (.lst [V.int (L : Nat)]) := upd_same
    generalize upd H1 p2 (.lst [V.int (L : Nat)]) = H2 at s2 e2
    refine ⟨by show 8 ≤ sizeLine; decide, fun p3 n3 => ?_⟩
    have s3 := same_upd (o := HO.lst [V.int ((L : Nat) + 1), V.int (-1), V.non, V.bl true, V.str "0", V.ref p1, V.int (10 ^ 30), V.ref p2]) n3
    have e3 : (upd H2 p3 (.lst [V.int ((L : Nat) + 1), V.int (-1), V.non, V.bl true, V.str "0", V.ref p1, V.int (10 ^ 30), V.ref p2])) p3 = some (.lst [V.int ((L : Nat) + 1), V.int (-1), V.non, V.bl true, V.str "0", V.ref p1, V.int (10 ^ 30), V.ref p2]) := upd_same
    obtain ⟨H3, hH3⟩ : ∃ H3, H3 = upd H2 p3 (.lst [V.int ((L : Nat) + 1), V.int (-1), V.non, V.bl true, V.str "0", V.ref p1, V.int (10 ^ 30), V.ref p2]) := ⟨_, rfl⟩
    rw [← hH3] at s3 e3
    have s03 := (s1.trans s2).trans s3
    have t1 := s3 _ _ (s2 _ _ e1)
    have t2 := s3 _ _ e2
    have itL : ItB (.int (L : Nat)) := itb (few_item L (by omega))
    have odds : ∀ v ∈ [V.int ((L : Nat) + 1), V.int (-1), V.non, V.bl true, V.str "0", V.ref p1, V.int (10 ^ 30), V.ref p2], OddP K L H3 v := by
      intro v hv
      simp only [List.mem_cons, List.mem_nil_iff, or_false] at hv
      rcases hv with rfl | rfl | rfl | rfl | rfl | rfl | rfl | rfl
      · exact ⟨ix_no (.inr (by omega)), ix_no (.inr (by omega)), _, shO_item (itb (few_item (L + 1) (by omega))) (.int _)⟩
      · exact ⟨ix_no (.inl (by decide)), ix_no (.inl (by decide)), _, shO_item (itb i1_item) (.int _)⟩
      · exact ⟨.other (T := "NoneType") (.base .non) (by decide), .other (T := "NoneType") (.base .non) (by decide), _, shO_item (itb none_item) .non⟩
      · exact ⟨.bl _, .bl _, _, shO_item (itb true_item) (.bl _)⟩
      · exact ⟨.other (T := "str") (.base (.str _)) (by decide), .other (T := "str") (.base (.str _)) (by decide), _, shO_item (itb zero_item) (.str _)⟩
      · exact ⟨.other (T := "tuple") (.base (.tup t1)) (by decide), .other (T := "tuple") (.base (.tup t1)) (by decide), _, shO_tup (ds := [.int 0]) (by decide) (fun d hd => by rw [List.mem_singleton.mp hd]; exact itb (few_item 0 (by decide))) (SqT.of t1) (.cons (.int _) .nil)⟩
      · have big : Shows K H3 (.int (10 ^ 30)) (.int (10 ^ 30)) := ⟨.int _, .inl rfl, big_ok.2.1, by decide, by have z := big_ok.2.2; rw [sizeLine_eq]; omega⟩
        exact ⟨ix_no (.inr (by omega)), ix_no (.inr (by omega)), _, big, big_ok.1⟩
      · exact ⟨.other (T := "list") (.base (.lst t2)) (by decide), .other (T := "list") (.base (.lst t2)) (by decide), _, shO_list (ds := [.int (L : Nat)]) (by show 1 ≤ 20; decide) (fun d hd => by rw [List.mem_singleton.mp hd]; exact itL) (SqL.of t2) (.cons (.int _) .nil)⟩
    -- none of the ways tells another thing
    have ways : ∀ {N : Nat} {i : Nat} {σ : L2.St} {H4 : Hp} {v : V} {Q' : VK}, N ≤ 3 → N < 2 ^ 62 → Same H H4 → σ[0]? = some (some (.ref a)) → (wipe σ [3])[0]? = some (some (V.ref a)) → (∀ x, ((wipe σ [3]).set 3 (some x))[0]? = some (some (V.ref a))) → (∀ x, ((wipe σ [3]).set 3 (some x))[i]? = some (some v)) → (∀ x, ((wipe σ [3]).set 3 (some x))[3]? = some (some x)) →
        (∀ x, wipe ((wipe σ [3]).set 3 (some x)) [3] = wipe σ [3]) → (∀ way, way < N → Rw.IxV K H4 (boundW way ds : Nat) v false) → (∃ dv, ShowsO K H4 v dv) → (∀ D H5, Same H4 H5 → H5 D = some (.lst []) → Q' (.ref D) H5) →
        tLc (iRng1 (tCons (tC (.int (N : Nat))) tNil)) (gName 3) (tTest (tOp (rNeD K) (tCall (spNoAt K C) [] E0 (tCons (tVar 0) (tCons (tVar 3) (tCons (tVar i) tNil)))) (tLst (tCons (tC (.str "none")) (tCons (tCB (rReprD K) (tCons (tVar i) tNil)) tNil))))) (tVar 3) [3] σ H4 Q' := by
      intro N i σ H4 v Q' hN _ s4 _ _ h0 hi h3 hw hx ⟨dv, sh⟩ hq
      refine ⟨(N : Int), rfl, by omega, by omega, fun D nD => ?_⟩
      rw [Int.toNat_natCast]
      refine lc_range (lo := 0) (n := N) (fun _ H' => Same H4 H' ∧ H' D = some (.lst [])) ⟨same_upd nD, upd_same⟩ (fun k H5 hk ⟨s5, e5⟩ => ?_) fun H5 ⟨s5, e5⟩ => hq D H5 s5 e5
      have ek : ((0 : Int) + (k : Nat)) = ((k : Nat) : Int) := by omega
      rw [ek]
      refine ⟨hw _, _, h0 _, _, h3 _, _, hi _, a, k, bv, v, ds, dv, rfl, by omega, hb.same (s4.trans s5), (hx k hk).same s5, sh.same s5, fun H6 r s6 nr e6 => ?_⟩
      refine said (i := i) (hi _) (sh.same (s5.trans s6)) fun p2 np2 => ne_two none_ok sh.ok (same_upd np2 _ _ e6) upd_same ⟨_, rfl, ?_⟩
      exact iteF ⟨s5.trans (s6.trans (same_upd np2)), (s6.trans (same_upd np2)) _ _ e5⟩
    refine ⟨p3, rfl, ⟨_, SqL.of (by exact upd_same)⟩, for_list (K := K) (a := p3) (xs := [V.int ((L : Nat) + 1), V.int (-1), V.non, V.bl true, V.str "0", V.ref p1, V.int (10 ^ 30), V.ref p2]) (fun i σ H' => ∃ (v2 v3 : Option V), σ = [some (.ref a), some (.int (L : Nat)), v2, v3] ∧ Same H3 H') ⟨_, _, rfl, by rw [hH3]; exact Same.refl _⟩ (fun i σ H' _ ⟨_, _, _, z⟩ => z.seq (SqL.of e3)) ?_ ?_⟩
    · rintro i v σ H4 hv ⟨v2, v3, rfl, s4⟩
      have ov := (odds v (List.mem_of_getElem? hv)).same s4
      rw [hL] at ov
      refine name_in (if_in (test_in (op_in ?_)))
      refine ways (N := 3) (i := 2) (v := v) (σ := [some (.ref a), some (.int (L : Nat)), some v, v3]) (by decide) (by decide) (s03.trans s4) rfl rfl (fun _ => rfl) (fun _ => rfl) (fun _ => rfl) (fun _ => rfl) (fun way _ => ov.at way) ov.sh fun D H5 s5 e5 => ?_
      refine ⟨Nat.zero_le _, fun r nr => ?_⟩
      have s6 := same_upd (o := HO.lst []) nr
      refine ⟨.list [], .list [], .lst (SqL.of (s6 _ _ e5)) .nil, .lst (SqL.of upd_same) .nil, nilL_shaped, nilL_shaped, _, rfl, ?_⟩
      rw [eqv_nil]
      exact iteF ⟨_, _, rfl, s4.trans (s5.trans s6)⟩
    · rintro σ H4 ⟨v2, v3, rfl, s4⟩
      dsimp only
      refine ret_in (op_in ?_)
      refine ways (N := 2) (i := 1) (v := .int (L : Nat)) (σ := [some (.ref a), some (.int (L : Nat)), v2, v3]) (by decide) (by decide) (s03.trans s4) rfl rfl (fun _ => rfl) (fun _ => rfl) (fun _ => rfl) (fun _ => rfl) (fun way hw => ?_) ⟨_, shO_item itL (.int _)⟩ fun D H5 s5 e5 => ?_
      · unfold boundW
        rw [if_neg (by omega), ← hL]
        exact ix_no (.inr (Int.le_refl _))
      refine ⟨Nat.zero_le _, fun r nr => ?_⟩
      have s6 := same_upd (o := HO.lst []) nr
      refine ⟨.list [], .list [], .lst (SqL.of (s6 _ _ e5)) .nil, .lst (SqL.of upd_same) .nil, nilL_shaped, nilL_shaped, ?_⟩
      rw [eqv_nil]
      exact q _ (s03.trans (s4.trans (s5.trans s6)))
end
end Tr

/-! K11 -/
/-! ### items, and those in pieces -/
namespace Tr
open PySem PySem.Spec PyProof.Rows L2 Rw
theorem piece_shape {r : List D} {a : Nat} (h : shaped (.tuple (.str "piece" :: r)) a = true) : ∃ n v, r = [n, v] ∧ nameD n = true ∧ innerP v = true := by
  have e3 : ("piece" : Str) ≠ "use" := by decide +kernel
  have e4 : ("piece" : Str) ∉ plain6 := by decide +kernel
  match r with
  | [] => rw [shaped1, decide_eq_false e3] at h; cases h
  | [n] => rw [shaped2, decide_eq_false e4] at h; simp at h
  | [n, v] =>
    rw [shaped3, if_pos rfl] at h
    simp only [Bool.and_eq_true] at h
    exact ⟨n, v, rfl, h.2.1, h.2.2⟩
  | [n, x, y] => rw [shaped4, decide_eq_true rfl] at h; simp at h
  | _ :: _ :: _ :: _ :: _ => simp [shaped] at h
theorem inner_tup {v : D} (h : innerP v = true) : ∃ ws, v = .tuple ws ∧ (misl ws 0).contains true = false ∧ (flat ws).length ≤ 4 ∧ (flat ws).all wordIn = true := by
  cases v with
  | tuple ws =>
    rw [innerP] at h
    simp only [Bool.and_eq_true, Bool.not_eq_true', decide_eq_true_eq] at h
    exact ⟨ws, rfl, h.1.1.2, h.1.2, h.2⟩
  | _ => simp [innerP] at h
/-- a piece can be looked into -/
def PcOk (d : D) : Prop := wD d = "piece" → ∃ (n : Str) (ws : List D), d = .tuple [.str "piece", .str n, .tuple ws] ∧ (∀ e ∈ flat ws, BrOk e) ∧ (flat ws).length ≤ 4 ∧ (flat ws).all wordIn = true
theorem pc_ok {d : D} {a : Nat} (hb : BrOk d) (h : shaped d a = true) : PcOk d := by
  intro hw
  obtain ⟨w, r, rfl, _, _, hn⟩ := hb
  have hw : w = "piece" := hw
  subst hw
  obtain ⟨n, v, rfl, h1, h2⟩ := piece_shape h
  obtain ⟨ws, rfl, m, l4, wi⟩ := inner_tup h2
  obtain ⟨n', r', e⟩ := hn (.inr (.inr rfl))
  have e := (List.cons.inj e).1
  subst e
  exact ⟨n', ws, rfl, fun e he => (br_flat m e he).1, l4, wi⟩
def pcs : D → List D
  | .tuple [.str w, _, .tuple ws] => if w = "piece" then flat ws else []
  | _ => []
theorem pcs_piece (n : Str) (ws : List D) : pcs (.tuple [.str "piece", .str n, .tuple ws]) = flat ws := by
  show (if ("piece" : Str) = "piece" then flat ws else []) = flat ws
  rw [if_pos rfl]
theorem pcs_none {d : D} (h : wD d ≠ "piece") : pcs d = [] := by
  unfold pcs
  split
  · next w n ws => exact if_neg h
  · rfl
/-- the items of a body and of its pieces -/
def fwp (ds : List D) : List D := (flat ds).flatMap fun d => d :: pcs d
def spFwp (K : PySem.W.Frag) (n : Nat) : Sp := fun vs H Q _ => ∃ (p : Addr) (xs : List V) (ds : List D), vs = [.ref p] ∧ SqT K H p xs ∧ DpAll K H xs ds ∧ Fits n ds ∧ (∀ d ∈ flat ds, BrOk d ∧ PcOk d) ∧ (flat ds).length ≤ 800 ∧
  ∀ H' l ys, Same H H' → H l = none → H' l = some (.lst ys) → DpAll K H ys (fwp ds) → Q (.ref l) H'
theorem flat_fit : ∀ (n : Nat) (ds : List D), Fits n ds → ∀ d ∈ flat ds, FitD n d
  | 0, ds, h => absurd h.dep (Nat.not_lt_zero _)
  | n + 1, ds, h => by
    induction ds with
    | nil => intro d hd; rw [flat] at hd; cases hd
    | cons a ds ih =>
      intro d hd
      rw [flat] at hd
      have ha : FitD (n + 1) a := h.mem List.mem_cons_self
      rcases List.mem_cons.mp hd with rfl | hd
      · exact ha
      rcases List.mem_append.mp hd with hd | hd
      · rw [flatk_kids] at hd
        obtain ⟨x, hx, hd⟩ := List.mem_flatMap.mp hd
        have z := flat_fit n x (kid_fit ha hx) d hd
        exact ⟨z.good, Nat.lt_succ_of_lt z.dep, z.cnt⟩
      · exact ih h.tail d hd
theorem ws_fit {n : Nat} {x y : D} {ws : List D} (h : FitD (n + 1) (.tuple [x, y, .tuple ws])) : Fits (n + 1) ws := by
  have z : FitD n (.tuple ws) := h.inside.mem (List.mem_cons_of_mem _ (List.mem_cons_of_mem _ List.mem_cons_self))
  obtain ⟨a, b, c⟩ := z
  rw [goodD] at a
  rw [PyData.depth] at b
  rw [cntD] at c
  exact ⟨a, by omega, by omega⟩
theorem pcs_len {d : D} (h : PcOk d) : (pcs d).length ≤ 4 := by
  by_cases hw : wD d = "piece"
  · obtain ⟨n, ws, rfl, _, l, _⟩ := h hw
    rw [pcs_piece]; exact l
  · rw [pcs_none hw]; exact Nat.zero_le _
theorem fw_len : ∀ as : List D, (∀ d ∈ as, PcOk d) → (as.flatMap fun d => d :: pcs d).length ≤ as.length * 5
  | [], _ => Nat.zero_le _
  | d :: as, h => by
    have z := fw_len as fun x hx => h x (List.mem_cons_of_mem _ hx)
    have y := pcs_len (h d List.mem_cons_self)
    rw [List.flatMap_cons, List.length_append, List.length_cons, List.length_cons, Nat.add_mul]
    omega
section
variable {P : Program} {w : World} {K : PySem.W.Frag} {mg : Str → Option Value} {base : Heap}
abbrev sFw : Stmt := top 27
theorem scFw : FnScope ["items", "found", "item"] ["items"] (defScope sFw) := ⟨rfl, rfl, rfl, by decide +kernel, rfl, by decide +kernel, by decide +kernel⟩
theorem ok_fw {f fF : Addr} {fd fdF : FuncData} (F : Fun K "flat_with_pieces" "flat_with_pieces" sFw f fd) (n : Nat) (GF : FnOk P w K mg base CX0 (n + 3) fF fdF ["items"] (spFlat K (n + 1))) (TF : Called K mg "flat" ["items"] fF fdF) : FnOk P w K mg base CX0 (n + 4) f fd ["items"] (spFwp K (n + 1)) := by
  refine F.ok scFw (fun vs H Q E h => ?_) (fun cdv A outer s H vs Q E hr h => ?_)
  · obtain ⟨p, xs, ds, rfl, _⟩ := h
    rfl
  · obtain ⟨p, xs, ds, rfl, hp, ha, ft, br, hz, q⟩ := h
    refine ⟨_, (pss_cons (ps_set (i := 1) scFw.nd rfl (.inl rfl) (pe_lst pa_nil))
       (pss_cons (ps_for PassesOwn.never rfl (pi_list (pe_call GF (hr.mono (by first | decide | omega)) rfl TF.1 TF.2.1 TF.2.2 .nil pass0 (pa_cons (pv 0) pa_nil))) (pg_name (i := 2) scFw.nd rfl (.inl rfl))
       (pss_cons (ps_expr (pe_bm PySem.F.plainAttrs_list PySem.F.slot_list_append PySem.F.type_list_append mt_append (pv 1) (pa_cons (pv 2) pa_nil)))
       (pss_one (ps_if (pt_cmpR op_eq (pe_ix (ix_tupK (K := K) rfl) (pv 2) pe_int (fun _ _ => rfl)) pe_str (nomark _))
       (pss_one (ps_expr (pe_bm PySem.F.plainAttrs_list PySem.F.slot_list_extend PySem.F.type_list_extend mt_extend (pv 1) (pa_cons (pe_call GF (hr.mono (by first | decide | omega)) rfl TF.1 TF.2.1 TF.2.2 .nil pass0 (pa_cons (pe_ix (ix_tupK (K := K) rfl) (pv 2) pe_int (fun _ _ => rfl)) pa_nil)) pa_nil))))
       pss_nil))))
       (pss_one (ps_ret (pv 1))))), ?_⟩
    refine ⟨Nat.zero_le _, fun l nl => ?_⟩
    have s1 : Same H (upd H l (.lst [])) := same_upd nl
    have e1 : (upd H l (.lst [])) l = some (.lst []) := upd_same
    generalize upd H l (.lst []) = H1 at s1 e1
    refine ⟨_, rfl, H, p, xs, ds, rfl, s1, s1.tupS hp, ha, ft, fun d hd => (br d hd).1, fun H2 l2 ys s2 n2 h2 hy => ?_⟩
    have ly := dpl hy
    have l2l : l2 ≠ l := fun z => by rw [z, e1] at n2; cases n2
    refine ⟨l2, rfl, ⟨_, SqL.of h2⟩, for_list (K := K) (a := l2) (xs := ys)
      (fun i σ H' => ∃ (zs : List V) (v2 : Option V), σ = [some (.ref p), some (.ref l), v2] ∧ Same H H' ∧ H' l = some (.lst zs) ∧ H' l2 = some (.lst ys) ∧ DpAll K H zs (((flat ds).take i).flatMap fun d => d :: pcs d))
      ⟨[], none, rfl, s1.trans s2, s2 _ _ e1, h2, .nil⟩ (fun i σ H' _ ⟨_, _, _, _, _, z, _⟩ => SqL.of z) ?_ ?_⟩
    · rintro i x σ H3 hx3 ⟨zs, v2, rfl, s3, hl, hl2, hz'⟩
      obtain ⟨d, hd, hx⟩ := dp_get hy hx3
      have md : d ∈ flat ds := List.mem_of_getElem? hd
      have hi : i < (flat ds).length := (List.getElem?_eq_some_iff.mp hd).1
      obtain ⟨brd, pcd⟩ := br d md
      have lz := dpl hz'
      have lf := fw_len ((flat ds).take i) fun e he => (br e (List.mem_of_mem_take he)).2
      rw [List.length_take] at lf
      have lb : zs.length ≤ 4000 := by rw [lz]; exact Nat.le_trans lf (by omega)
      have pl := pcs_len pcd
      refine ⟨_, rfl, .inl ⟨rfl, _, SqL.of hl⟩, _, rfl, l, _, _, rfl, rfl, hl, by rw [sizeLine_eq]; omega, ?_⟩
      have s4 : Same H (upd H3 l (.lst (zs ++ [x]))) := same_updN nl s3
      have hl4 : (upd H3 l (.lst (zs ++ [x]))) l = some (.lst (zs ++ [x])) := upd_same
      have hl24 : (upd H3 l (.lst (zs ++ [x]))) l2 = some (.lst ys) := by rw [upd_ne l2l]; exact hl2
      generalize upd H3 l (.lst (zs ++ [x])) = H4 at s4 hl4 hl24
      have hz4 : DpAll K H (zs ++ [x]) ((((flat ds).take i).flatMap fun d => d :: pcs d) ++ [d]) := dp_app hz' (.cons hx .nil)
      obtain ⟨w, r, rfl, _, _, _⟩ := id brd
      cases id hx with
      | @tup px xr _ hpx hax =>
      cases hax with
      | @cons x0 xr _ _ h0 hax =>
      cases h0
      refine ⟨_, rfl, px, _, _, _, rfl, rfl, s4.tupS hpx, at0, rfl, _, rfl, ?_⟩
      rw [Rw.dec_str, take_snoc hd, List.flatMap_append]
      by_cases h1 : w = "piece"
      · rw [decide_eq_true h1]
        obtain ⟨n', ws, e, bw, l4, _⟩ := pcd h1
        rw [e, List.flatMap_cons, List.flatMap_nil, List.append_nil, pcs_piece]
        have ff := flat_fit _ _ ft _ md
        rw [e] at ff
        cases e
        cases hax with
        | @cons x1 xr2 _ _ h1' hax =>
        cases hax with
        | @cons x2 xr3 _ _ h2' hax =>
        cases hax
        cases h2' with
        | @tup pw xw _ hpw haw =>
        refine iteT ⟨_, rfl, .inl ⟨rfl, _, SqL.of hl4⟩, _, rfl, px, _, _, _, rfl, rfl, s4.tupS hpx, at2, H, pw, xw, ws, rfl, s4, s4.tupS hpw, haw, ws_fit ff, bw, fun H5 l5 us s5 n5 h5 hu => ?_⟩
        have lu := dpl hu
        refine ⟨l, l5, _, _, rfl, rfl, s5 _ _ hl4, h5, by rw [sizeLine_eq, List.length_append]; show _ + 1 + _ ≤ _; omega, ?_⟩
        refine ⟨zs ++ [.ref px] ++ us, _, rfl, same_updN nl (s4.trans s5), upd_same, by rw [upd_ne l2l]; exact s5 _ _ hl24, ?_⟩
        have z := dp_app hz4 hu
        simpa using z
      · rw [decide_eq_false h1]
        refine iteF ⟨zs ++ [.ref px], _, rfl, s4, hl4, hl24, ?_⟩
        have e := pcs_none (d := .tuple (.str w :: r)) h1
        rw [List.flatMap_cons, List.flatMap_nil, List.append_nil, e]
        exact hz4
    · rintro σ H3 ⟨zs, v2, rfl, s3, hl, hl2, hz'⟩
      rw [ly, List.take_length] at hz'
      exact ⟨_, rfl, q H3 l zs s3 nl hl hz'⟩
end
end Tr

/-! K12 -/
/-! ### the law's walk over all items -/
namespace Tr
open PySem PySem.Spec PyProof.Rows L2 Rw
def pcl : D → List (List D)
  | .tuple [.str w, _, .tuple ws] => if w = "piece" then [ws] else []
  | _ => []
theorem pcl_piece (n : Str) (ws : List D) : pcl (.tuple [.str "piece", .str n, .tuple ws]) = [ws] := by
  show (if ("piece" : Str) = "piece" then [ws] else []) = [ws]
  rw [if_pos rfl]
theorem pcl_none {d : D} (h : wD d ≠ "piece") : pcl d = [] := by
  unfold pcl
  split
  · next w n ws => exact if_neg h
  · rfl
theorem word_pc {e : D} (h : wordIn e = true) : wD e ≠ "piece" := by
  unfold wordIn at h
  split at h
  · next w r =>
    have z := of_decide_eq_true h
    intro e
    have e : w = "piece" := e
    rw [e] at z
    exact absurd z (by decide +kernel)
  · cases h
theorem fwp_leaf {ws : List D} (h : (flat ws).all wordIn = true) : fwp ws = flat ws := by
  unfold fwp
  have go : ∀ as : List D, (∀ e ∈ as, wordIn e = true) → (as.flatMap fun d => d :: pcs d) = as := by
    intro as
    induction as with
    | nil => intro _; rfl
    | cons a as ih =>
      intro w
      rw [List.flatMap_cons, pcs_none (word_pc (w a List.mem_cons_self)), ih fun e he => w e (List.mem_cons_of_mem _ he)]
      rfl
  exact go _ (List.all_eq_true.mp h)
theorem fwp_app (as bs : List D) : fwp (as ++ bs) = fwp as ++ fwp bs := by
  unfold fwp
  rw [flat_app, List.flatMap_append]
theorem kids_piece (n : Str) (ws : List D) : kids (.tuple [.str "piece", .str n, .tuple ws]) = [] := kids_none (by decide +kernel) (by decide +kernel)
theorem fwp_one {d : D} (hp : PcOk d) : fwp [d] = d :: (kids d ++ pcl d).flatMap fwp := by
  by_cases hw : wD d = "piece"
  · obtain ⟨n, ws, rfl, _, _, wi⟩ := hp hw
    rw [kids_piece, pcl_piece, List.nil_append, List.flatMap_cons, List.flatMap_nil, List.append_nil, fwp_leaf wi]
    unfold fwp
    rw [flat_one, flatk_kids, kids_piece, List.flatMap_nil, List.flatMap_cons, List.flatMap_nil, List.append_nil, pcs_piece]
  · rw [pcl_none hw, List.append_nil]
    unfold fwp
    rw [flat_one, flatk_kids, List.flatMap_cons, pcs_none hw, List.flatMap_assoc]
    rfl
theorem ws_fit2 {n : Nat} {x y : D} {ws : List D} (h : FitD (n + 1) (.tuple [x, y, .tuple ws])) : Fits n ws := by
  have z : FitD n (.tuple ws) := h.inside.mem (List.mem_cons_of_mem _ (List.mem_cons_of_mem _ List.mem_cons_self))
  obtain ⟨a, b, c⟩ := z
  rw [goodD] at a
  rw [PyData.depth] at b
  rw [cntD] at c
  exact ⟨a, by omega, by omega⟩
theorem cut_from (xs : List V) (i : Nat) : cutV xs (some (i : Int)) none = xs.drop i := by
  show (xs.drop (HT.sIx xs.length 0 (some (i : Int)))).take (xs.length - HT.sIx xs.length 0 (some (i : Int))) = xs.drop i
  rw [HT.sIx_nat]
  by_cases h : i ≤ xs.length
  · rw [Nat.min_eq_left h, List.take_of_length_le]
    rw [List.length_drop]
    exact Nat.le_refl _
  · rw [Nat.min_eq_right (by omega), List.drop_of_length_le (show xs.length ≤ i by omega), Nat.sub_self, List.take_zero]
/-- what is looked into behind an item -/
def chl (d : D) : List (List D) := kids d ++ pcl d
def spEv (K : PySem.W.Frag) (n : Nat) : Sp := fun vs H Q _ => ∃ (H0 : Hp) (p : Addr) (xs : List V) (ds : List D), vs = [.ref p] ∧ Same H0 H ∧ SqT K H p xs ∧ DpAll K H0 xs ds ∧ Fits n ds ∧ (∀ d ∈ flat ds, BrOk d ∧ PcOk d) ∧ (flat ds).length ≤ 800 ∧
  ∀ H' l ys, Same H H' → H l = none → H' l = some (.lst ys) → DpAll K H0 ys (fwp ds) → Q (.ref l) H'
section
variable {P : Program} {w : World} {K : PySem.W.Frag} {mg : Str → Option Value} {base : Heap}
abbrev sEv : Stmt := top 51
theorem scEv : FnScope ["_law_items", "_law_found", "_law_item", "_law_some_here", "_law_part"] ["_law_items"] (defScope sEv) := ⟨rfl, rfl, rfl, by decide +kernel, rfl, by decide +kernel, by decide +kernel⟩
theorem ok_ev {f fT : Addr} {fd fdT : FuncData} (F : Fun K "_law_every" "_law_every" sEv f fd) (TX : Called K mg "_law_every" ["_law_items"] f fd) (GT : FnOk P w K mg base CX0 1 fT fdT ["_law_item"] (spTu K)) (TT : Called K mg "_law_tuples" ["_law_item"] fT fdT) : ∀ n, FnOk P w K mg base CX0 (n + 2) f fd ["_law_items"] (spEv K n) := by
  intro n
  induction n with
  | zero =>
    refine F.ok scEv (fun vs H Q E h => ?_) (fun cdv A outer s H vs Q E hr h => ?_)
    · obtain ⟨H0, p, xs, ds, rfl, _⟩ := h
      rfl
    · obtain ⟨H0, p, xs, ds, rfl, _, _, _, ft, _⟩ := h
      exact absurd ft.dep (Nat.not_lt_zero _)
  | succ n GX =>
    refine F.ok scEv (fun vs H Q E h => ?_) (fun cdv A outer s H vs Q E hr h => ?_)
    · obtain ⟨H0, p, xs, ds, rfl, _⟩ := h
      rfl
    · obtain ⟨H0, p, xs, ds, rfl, s0, hp, ha, ft, br, hz, q⟩ := h
      refine ⟨_, (pss_cons (ps_set (i := 1) scEv.nd rfl (.inl rfl) (pe_lst pa_nil))
       (pss_cons (ps_for PassesOwn.never rfl (pi_tup (pv 0)) (pg_name (i := 2) scEv.nd rfl (.inr rfl))
       (pss_cons (ps_expr (pe_bm PySem.F.plainAttrs_list PySem.F.slot_list_append PySem.F.type_list_append mt_append (pv 1) (pa_cons (pv 2) pa_nil)))
       (pss_one (ps_for PassesOwn.never rfl (pi_list (pe_op op_cat (pe_call GT (hr.mono (by first | decide | omega)) rfl TT.1 TT.2.1 TT.2.2 .nil pass0 (pa_cons (pv 2) pa_nil)) (pe_lc (own := [("_law_part", 4)]) (g := gName 4)  (by rfl) scEv.nd (pi_tup (pe_slice sl_tupA (pv 2) (po_some pe_int) po_none)) (blkOk_by (own := [("_law_part", 4)]) (N := ["_law_items", "_law_found", "_law_item", "_law_some_here", "_law_part"]) (sc := defScope sEv) (by decide +kernel)) (fun _ _ _ _ _ => (pg_name (i := 4) scEv.nd rfl (Or.inl rfl))) (fun _ _ _ _ _ => (pts_one (pt_cmpR op_eq (pe_ix (ix_tupK (K := K) rfl) (pv 2) pe_int (fun _ _ => rfl)) pe_str (nomark _)))) (fun _ _ _ _ _ => (pv 4))))) (pg_name (i := 3) scEv.nd rfl (.inl rfl))
       (pss_one (ps_set (i := 1) scEv.nd rfl (.inl rfl) (pe_op op_cat (pv 1) (pe_call GX (hr.mono (by first | decide | omega)) rfl TX.1 TX.2.1 TX.2.2 .nil pass0 (pa_cons (pv 3) pa_nil)))))))))
       (pss_one (ps_ret (pv 1))))), ?_⟩
      have len := dpl ha
      have fwl : (fwp ds).length ≤ 4000 := Nat.le_trans (fw_len (flat ds) fun e he => (br e he).2) (by omega)
      refine ⟨Nat.zero_le _, fun l nl => ?_⟩
      refine ⟨_, rfl, p, rfl, ⟨_, (same_upd nl).tupS hp⟩, for_tup (xs := xs)
        (fun i σ H' => ∃ (l : Addr) (zs : List V) (v2 v3 : Option V), σ = [some (.ref p), some (.ref l), v2, v3, none] ∧ Same H H' ∧ H l = none ∧ H' l = some (.lst zs) ∧ DpAll K H0 zs (fwp (ds.take i)))
        ⟨l, [], none, none, rfl, same_upd nl, nl, upd_same, by rw [List.take_zero]; unfold fwp; rw [flat]; exact .nil⟩ ?_ ?_ ?_⟩
      · rintro i σ H' hi ⟨_, _, _, _, rfl, sm, _⟩
        exact sm.tupS hp
      · rintro i x σ H1 hxi ⟨l, zs, v2, v3, rfl, s1, nl, hl, hzs⟩
        obtain ⟨d, hd, hx⟩ := dp_get ha hxi
        have mem : d ∈ ds := List.mem_of_getElem? hd
        have tk := take_snoc hd
        have fl1 : flat (ds.take (i + 1)) = flat (ds.take i) ++ (d :: flatk d) := by rw [tk, flat_app, flat_one]
        have sub : ∀ e ∈ flat (ds.take (i + 1)), e ∈ flat ds := fun e he => by
          rw [← List.take_append_drop (i + 1) ds, flat_app]
          exact List.mem_append_left _ he
        have subk : ∀ e ∈ flatk d, e ∈ flat ds := fun e he => sub e (by rw [fl1]; exact List.mem_append_right _ (List.mem_cons_of_mem _ he))
        have md : d ∈ flat ds := sub d (by rw [fl1]; exact List.mem_append_right _ List.mem_cons_self)
        obtain ⟨brd, pcd⟩ := br d md
        have fit := ft.mem mem
        have fw1 : fwp (ds.take (i + 1)) = fwp (ds.take i) ++ d :: (chl d).flatMap fwp := by rw [tk, fwp_app, fwp_one pcd]; rfl
        have fwb : (fwp (ds.take (i + 1))).length ≤ 4000 := by
          have z : (fwp ds).length = (fwp (ds.take (i + 1))).length + (fwp (ds.drop (i + 1))).length := by
            rw [← List.length_append, ← fwp_app, List.take_append_drop]
          omega
        rw [fw1, List.length_append, List.length_cons] at fwb
        have lz := dpl hzs
        -- what each child is
        have child : ∀ c ∈ chl d, Fits n c ∧ (∀ e ∈ flat c, BrOk e ∧ PcOk e) ∧ (flat c).length ≤ 800 := by
          intro c hc
          rcases List.mem_append.mp hc with hc | hc
          · have sk : ∀ e ∈ flat c, e ∈ flatk d := fun e he => by rw [flatk_kids]; exact List.mem_flatMap.mpr ⟨c, hc, he⟩
            refine ⟨kid_fit fit hc, fun e he => br e (subk e (sk e he)), ?_⟩
            have z1 := (kid_flat hc).1
            have z2 : (flat ds).length = (flat (ds.take (i + 1))).length + (flat (ds.drop (i + 1))).length := by
              rw [← List.length_append, ← flat_app, List.take_append_drop]
            rw [fl1, List.length_append, List.length_cons] at z2
            omega
          · by_cases hw : wD d = "piece"
            · obtain ⟨n', ws, rfl, b, l4, wi⟩ := pcd hw
              rw [pcl_piece] at hc
              rw [List.mem_singleton.mp hc]
              exact ⟨ws_fit2 fit, fun e he => ⟨b e he, fun z => absurd z (word_pc (List.all_eq_true.mp wi e he))⟩, by omega⟩
            · rw [pcl_none hw] at hc; cases hc
        refine ⟨_, rfl, .inl ⟨rfl, _, SqL.of hl⟩, _, rfl, l, _, _, rfl, rfl, hl, by rw [sizeLine_eq]; omega, ?_⟩
        have s2 : Same H (upd H1 l (.lst (zs ++ [x]))) := same_updN nl s1
        have hl2 : (upd H1 l (.lst (zs ++ [x]))) l = some (.lst (zs ++ [x])) := upd_same
        generalize upd H1 l (.lst (zs ++ [x])) = H2 at s2 hl2
        have hz2 : DpAll K H0 (zs ++ [x]) (fwp (ds.take i) ++ [d]) := dp_app hzs (.cons hx .nil)
        refine ⟨_, rfl, H0, x, d, rfl, s0.trans s2, hx, brd, fun H3 l1 ks s3 n3 h3 hks => ?_⟩
        have s03 := s0.trans (s2.trans s3)
        have comp : ∀ Q' : VK, (∀ D H' ps, Same H3 H' → H' D = some (.lst ps) → DpAll K H0 ps ((pcl d).map PyData.tuple) → Q' (.ref D) H') →
            tLc (iTup K (tSl (rSlA K) (tVar 2) (tPart (tC (V.int 2))) tNoPart)) (gName 4) (tTest (tOp rEq (tOp (rIxT K) (tVar 2) (tC (V.int 0))) (tC (V.str "piece")))) (tVar 4) [4] [some (.ref p), some (.ref l), some x, v3, none] H3 Q' := by
          intro Q' hq
          obtain ⟨w, r, rfl, _, _, _⟩ := id brd
          cases id hx with
          | @tup px xr _ hpx hax =>
          cases hax with
          | @cons x0 xr _ _ h0 hax =>
          cases h0
          have hpx3 := s03.tupS hpx
          refine ⟨_, rfl, 2, rfl, px, _, rfl, hpx3, fun c => ?_, fun c t nt => ?_⟩
          · exfalso
            have z := c.1
            have e : HT.sIx (V.str w :: xr).length 0 (some ((2 : Nat) : Int)) = min 2 (V.str w :: xr).length := HT.sIx_nat _ _ _
            rw [show (some 2 : Option Int) = some ((2 : Nat) : Int) from rfl, e, List.length_cons] at z
            omega
          have ec : cutV (V.str w :: xr) (some 2) none = xr.drop 1 := cut_from (V.str w :: xr) 2
          rw [ec]
          have s4 := same_upd (o := HO.tup (xr.drop 1)) nt
          have ht4 : SqT K (upd H3 t (.tup (xr.drop 1))) t (xr.drop 1) := SqT.of upd_same
          generalize upd H3 t (.tup (xr.drop 1)) = H4 at s4 ht4
          refine ⟨t, rfl, ⟨_, ht4⟩, fun D nD => ?_⟩
          by_cases h1 : w = "piece"
          · obtain ⟨n', ws, e, b, l4, wi⟩ := pcd h1
            cases e
            cases hax with
            | @cons x1 xr2 _ _ h1' hax =>
            cases hax with
            | @cons x2 xr3 _ _ h2' hax =>
            cases hax
            refine lc_tup (K := K) (a := t) (xs := [x2]) (fun j H' => Same H4 H' ∧ H' D = some (.lst ([x2].take j))) ⟨same_upd nD, upd_same⟩ (fun j H' _ z => z.1.tupS ht4) ?_ ?_
            · rintro j y H5 hy ⟨s5, e5⟩
              have hj : j < [x2].length := (List.getElem?_eq_some_iff.mp hy).1
              have hj : j = 0 := by simp at hj; omega
              subst hj
              cases hy
              refine ⟨rfl, _, rfl, px, _, _, _, rfl, rfl, (s4.trans s5).tupS hpx3, at0, rfl, _, rfl, ?_⟩
              rw [Rw.dec_str, decide_eq_true rfl]
              exact iteT ⟨_, rfl, _, e5, by show 0 < sizeLine; decide, same_updN nD s5, by rw [upd_same]; rfl⟩
            · rintro H5 ⟨s5, e5⟩
              refine hq D H5 [x2] (s4.trans s5) e5 ?_
              rw [pcl_piece]
              exact .cons h2' .nil
          · refine lc_tup (K := K) (a := t) (xs := xr.drop 1) (fun j H' => Same H4 H' ∧ H' D = some (.lst [])) ⟨same_upd nD, upd_same⟩ (fun j H' _ z => z.1.tupS ht4) ?_ ?_
            · rintro j y H5 hy ⟨s5, e5⟩
              refine ⟨rfl, _, rfl, px, _, _, _, rfl, rfl, (s4.trans s5).tupS hpx3, at0, rfl, _, rfl, ?_⟩
              rw [Rw.dec_str, decide_eq_false h1]
              exact iteF ⟨s5, e5⟩
            · rintro H5 ⟨s5, e5⟩
              refine hq D H5 [] (s4.trans s5) e5 ?_
              rw [pcl_none (d := .tuple (.str w :: r)) h1]
              exact .nil
        refine comp _ fun D H5 ps s5 e5 hps => ?_
        have hch : DpAll K H0 (ks ++ ps) ((chl d).map PyData.tuple) := by
          unfold chl
          rw [List.map_append]
          exact dp_app hks hps
        have lch := dpl hch
        have kl2 := kids_len d
        have pl2 : (pcl d).length ≤ 1 := by
          by_cases hw : wD d = "piece"
          · obtain ⟨n', ws, rfl, _⟩ := pcd hw
            rw [pcl_piece]; exact Nat.le_refl _
          · rw [pcl_none hw]; exact Nat.zero_le _
        rw [List.length_map] at lch
        have lch2 : (chl d).length ≤ 3 := by unfold chl; rw [List.length_append]; omega
        refine ⟨l1, D, _, _, rfl, rfl, s5 _ _ h3, e5, by rw [sizeLine_eq]; rw [List.length_append] at lch; omega, fun lc nlc => ?_⟩
        have s6 := same_upd (o := HO.lst (ks ++ ps)) nlc
        have e6 : (upd H5 lc (.lst (ks ++ ps))) lc = some (.lst (ks ++ ps)) := upd_same
        generalize upd H5 lc (.lst (ks ++ ps)) = H6 at s6 e6
        have s26 := s3.trans (s5.trans s6)
        have sH6 := s2.trans s26
        refine ⟨lc, rfl, ⟨_, SqL.of e6⟩, for_list (K := K) (a := lc) (xs := ks ++ ps) (fun j σ H' => ∃ (l : Addr) (us : List V) (v3 : Option V), σ = [some (.ref p), some (.ref l), some x, v3, none] ∧ Same H6 H' ∧ H l = none ∧ H' l = some (.lst us) ∧ DpAll K H0 us (fwp (ds.take i) ++ d :: ((chl d).take j).flatMap fwp))
          ⟨l, zs ++ [x], _, rfl, Same.refl _, nl, s26 _ _ hl2, hz2⟩ (fun j σ H' _ ⟨_, _, _, _, z, _⟩ => z.seq (SqL.of e6)) ?_ ?_⟩
        · rintro j k σ H7 hkj ⟨l, us, v3', rfl, s7, nl, hl7, hus⟩
          obtain ⟨pk, xk, dk, rfl, hdk, hpk, hak⟩ := dp_map_tup hch hkj
          obtain ⟨fk, bk, lk⟩ := child dk (List.mem_of_getElem? hdk)
          have s07 := s0.trans (sH6.trans s7)
          refine ⟨_, rfl, _, rfl, H0, pk, xk, dk, rfl, s07, s07.tupS hpk, hak, fk, bk, lk, fun H8 l8 ws s8 n8 h8 hws => ?_⟩
          have lu := dpl hus
          have lw := dpl hws
          have tkk := take_snoc hdk
          have tot : ((chl d).flatMap fwp).length = (((chl d).take (j + 1)).flatMap fwp).length + (((chl d).drop (j + 1)).flatMap fwp).length := by
            rw [← List.length_append, ← List.flatMap_append, List.take_append_drop]
          have tk1 : ((chl d).take (j + 1)).flatMap fwp = ((chl d).take j).flatMap fwp ++ fwp dk := by
            rw [tkk, List.flatMap_append]
            simp
          rw [tk1, List.length_append] at tot
          rw [List.length_append, List.length_cons] at lu
          refine ⟨l, l8, _, _, rfl, rfl, s8 _ _ hl7, h8, by rw [sizeLine_eq]; omega, fun l9 n9 => ?_⟩
          have s9 := same_upd (o := HO.lst (us ++ ws)) n9
          refine ⟨l9, us ++ ws, _, rfl, s7.trans (s8.trans s9), ((sH6.trans s7).trans s8).free n9, upd_same, ?_⟩
          rw [tk1]
          have z := dp_app hus hws
          simpa using z
        · rintro σ H7 ⟨l, us, v3', rfl, s7, nl, hl7, hus⟩
          rw [lch, List.take_length, ← fw1] at hus
          exact ⟨l, us, _, _, rfl, sH6.trans s7, nl, hl7, hus⟩
      · rintro σ H1 ⟨l, zs, v2, v3, rfl, s1, nl, hl, hzs⟩
        rw [len, List.take_length] at hzs
        exact ⟨_, rfl, q H1 l zs s1 nl hl hzs⟩
end
end Tr

/-! W0 -/
/-! ### sets of texts, as they can be walked -/
namespace Tx
open PySem PySem.Spec PyProof.Rows L2
open PySem.Froz (SD sObj TxOk addTx tailTx)
/-- the table rises, and its order is told or led -/
def Wk (w : World) (D : SD) : Prop := Ris D.2.2.place.toList ∧ (w.params.followText "set-order" = true ∨ D.2.2.led = true)
theorem wk_tail {w : World} {es : Array (Int × Value)} {ep : Nat} {t : SetTable} {d : Bool} (h : Wk w (es, ep, t)) : Wk w (tailTx ep es t d) := by
  unfold tailTx
  by_cases c : (!d && t.tooFull) = true
  · rw [if_pos c]; exact ⟨relayAll_ris _ _ _, h.2.imp id fun z => (relayAll_led t es (SetTable.grown es.size)).trans z⟩
  · rw [if_neg c]; exact h
theorem wk_add {w : World} {D : SD} {hh : Int} {v : Value} (h : Wk w D) : Wk w (addTx hh v D) := by
  obtain ⟨es, ep, t⟩ := D
  unfold addTx
  refine wk_tail ?_
  have a := layNew_ris t es hh v h.1
  have b := h.2.imp id fun z => (layNew_led t es hh v).trans z
  dsimp only
  by_cases c : (layNew t es hh v).2.1.plain = true
  · rw [if_pos c]; exact ⟨a, b⟩
  · rw [if_neg c]; exact ⟨a, b⟩
/-- the set at a holds the texts l -/
def SetTx (P : Program) (w : World) (h : Heap) (a : Addr) (l : List Str) : Prop := ∃ D : SD, h.get? a = some (sObj "set" D) ∧ TxOk P w D l ∧ l.Nodup ∧ l.length < scanBound ∧ Wk w D
def ins (k : Str) (l : List Str) : List Str := if k ∈ l then l else k :: l
theorem ins_len (k : Str) (l : List Str) : (ins k l).length ≤ l.length + 1 := by
  unfold ins
  split
  · omega
  · exact Nat.le_refl _
theorem SetTx.at {P : Program} {w : World} {h h' : Heap} {a : Addr} {l : List Str} (R : SetTx P w h a l) (k : ∀ o, h.get? a = some o → h'.get? a = some o) : SetTx P w h' a l :=
  let ⟨D, e, r⟩ := R
  ⟨D, k _ e, r⟩
section
variable {P : Program} {w : World} {A : Around} {E : Value → Shared → Prop} {s : Shared} {a : Addr} {l : List Str} {k : Str} {u : Tok}
theorem found_x {D : SD} {Q : Bool → Shared → Prop} (at_ : s.heap.get? a = some (sObj "set" D)) (F : TxOk P w D l) (small : l.length < scanBound) (there : k ∈ l) (fin : Q false s) :
    wpAny (model P w) A (setAddHashed a (.str k u) (hashStr w k)) Q E s := by
  obtain ⟨es, ep, t⟩ := D
  have same : (strKind P w).is k (.str k u) = true := PySem.Froz.is_str k u
  have few : es.size < scanBound := by
    have many : es.size = l.length := F.sz
    omega
  have elems : ElemsOf (strKind P w) es.toList := F.el
  obtain ⟨j, hj⟩ : ∃ j, es.toList.findIdx? (fun e => (strKind P w).is k e.2) = some j := by
    cases q : es.toList.findIdx? (fun e => (strKind P w).is k e.2) with
    | some j => exact ⟨j, rfl⟩
    | none =>
      obtain ⟨e, he, z⟩ := (F.mem k).mp there
      have none_of := List.findIdx?_eq_none_iff.mp q e he
      rw [z] at none_of
      exact absurd none_of (by decide)
  unfold setAddHashed setAddHashedIn
  refine wpAny_holding (wpAny_bind (wpAny_setState_of at_ rfl (show t.fits es.size = true from F.fit) ?_))
  dsimp only
  rw [byScan_of rfl few elems]
  simp only [↓reduceIte]
  unfold setAddByScan
  refine wpAny_bind (wpAny_bind (wpAny_rule (wpAny_bind (wpAny_setScan_of same at_ rfl F.fit elems ?_))))
  rw [hj]
  exact wpAny_pure (wpAny_pure fin)
theorem add_hashed {Q : Bool → Shared → Prop} (R : SetTx P w s.heap a l) (room : l.length + 1 < scanBound)
    (fin : ∀ h' b, Heap.SameBut a s.heap h' → SetTx P w h' a (ins k l) → Q b { s with heap := h' }) : wpAny (model P w) A (setAddHashed a (.str k u) (hashStr w k)) Q E s := by
  obtain ⟨D, at_, F, nd, small, wk⟩ := R
  by_cases there : k ∈ l
  · refine found_x at_ F small there ?_
    refine fin s.heap false (Heap.SameBut.refl a s.heap) ?_
    rw [show ins k l = l from if_pos there]
    exact ⟨D, at_, F, nd, small, wk⟩
  · refine PySem.Froz.add_x at_ F there room ?_
    refine fin _ true (Heap.SameBut.update s.heap a _) ?_
    rw [show ins k l = k :: l from if_neg there]
    exact ⟨_, PySem.Froz.get_upd _ at_ rfl, PySem.Froz.add_ok u F, List.nodup_cons.mpr ⟨there, nd⟩, room, wk_add wk⟩
theorem add_text {Q : Value → Shared → Prop} (R : SetTx P w s.heap a l) (room : l.length + 1 < scanBound)
    (fin : ∀ h' tk, Heap.SameBut a s.heap h' → SetTx P w h' a (ins k l) → Q .none { s with heap := h', toks := tk }) : wpAny (model P w) A (call (.builtin "set.add") [.ref a, .str k u]) Q E s := by
  obtain ⟨D, at_, r⟩ := id R
  refine wpAny_call_entry F.slot_set_add (T := "set") ⟨_, at_, rfl⟩ F.entry_set_add ?_ (F.args_set_add_2 _ _)
  unfold Builtin.«set.add» Builtin.Frozenset.oneOther
  simp only [List.isEmpty_nil, bind_assoc]
  unfold Builtin.Frozenset.addrOf setAdd
  refine wpAny_bind (wpAny_pure ?_)
  try dsimp only
  refine wpAny_bind (wpAny_pure ?_)
  try dsimp only
  refine wpAny_bind (wpAny_holding (wpAny_bind ((strKind P w).pyHash (PySem.Froz.is_str k u) ?_)))
  refine add_hashed (s := { s with toks := s.toks + 1 }) R room fun h' b sb r => ?_
  exact wpAny_pure ⟨_, rfl, fin h' _ sb r⟩
end
end Tx
/-! ### sorted of such a set -/
namespace Tx
open PySem PySem.Spec PyProof.Rows L2
open PySem.Froz (SD sObj TxOk addTx tailTx)
theorem fresh_tx {P : Program} {w : World} {h : Heap} : SetTx P w (h.push { cls := .type "set", dict := none, data := .set #[] 0 (.fresh 0 0 (!w.params.followText "set-order")) }) h.objs.size [] := by
  refine ⟨(#[], 0, .fresh 0 0 (!w.params.followText "set-order")), Heap.get?_push_size _ rfl, PySem.Froz.TxOk.nil rfl, List.nodup_nil, by decide, List.Pairwise.nil, ?_⟩
  cases w.params.followText "set-order" with
  | true => exact .inl rfl
  | false => exact .inr rfl
def SetTO (P : Program) (w : World) (a : Addr) (l : List Str) : HO := .ext fun h => SetTx P w h a l
theorem setTO_new {w : World} {P P' : Program} {w' : World} {H : Hp} {h : Heap} {a : Addr} {l : List Str} (R : SetTx P w h a l) : ObjOk P' w' H h a (SetTO P w a l) := by
  obtain ⟨D, at_, _⟩ := id R
  exact ⟨R, ⟨_, at_⟩, fun _ _ p k => SetTx.at p k⟩
theorem setTO_get {X : Cx} {pins : List (Addr × Obj)} {σ : L2.St} {H : Hp} {s : Shared} {a : Addr} {l : List Str} (I : Inv X pins σ H s) (at_ : H a = some (SetTO X.prog X.w a l)) : SetTx X.prog X.w s.heap a l := (I.hok a _ at_).1
def txOf : Value → Str
  | .str k _ => k
  | _ => Str.empty
theorem are_of : ∀ vs : List Value, (∀ v ∈ vs, ∃ k tk, v = Value.str k tk) → StrsAre vs (vs.map txOf)
  | [], _ => .nil
  | v :: vs, all => by
    obtain ⟨k, tk, e⟩ := all v List.mem_cons_self
    subst e
    exact .cons k tk (are_of vs fun u hu => all u (List.mem_cons_of_mem _ hu))
theorem perm_of_all : ∀ (l m : List Str), l.Nodup → (∀ x ∈ l, x ∈ m) → m.length = l.length → m.Perm l
  | [], m, _, _, len => by
    rw [List.length_eq_zero_iff.mp len]
  | x :: l, m, nd, sub, len => by
    have hx : x ∈ m := sub x List.mem_cons_self
    have nx := (List.nodup_cons.mp nd).1
    have back := List.perm_cons_erase hx
    refine back.trans (List.Perm.cons x (perm_of_all l (m.erase x) (List.nodup_cons.mp nd).2 (fun y hy => ?_) ?_))
    · exact (List.mem_erase_of_ne (fun e => nx (by rw [← e]; exact hy))).mpr (sub y (List.mem_cons_of_mem _ hy))
    · have z := back.length_eq
      simp only [List.length_cons] at z len
      omega
theorem str_of_is {P : Program} {w : World} {k : Str} {v : Value} (h : (strKind P w).is k v = true) : ∃ tk, v = .str k tk := by
  have h' : Value.isStrOf k v = true := h
  cases v <;> first
    | (simp only [Value.isStrOf, beq_iff_eq] at h'; exact ⟨_, by rw [h']⟩)
    | exact absurd h' Bool.false_ne_true
section
variable {P : Program} {w : World} {A : Around} {E : Value → Shared → Prop} {s : Shared} {a : Addr} {l : List Str}
theorem sorted_tx {Q : Value → Shared → Prop} (R : SetTx P w s.heap a l) (hh : A.handled = none) (few : l.length < 64)
    (fin : ∀ s' p (out : Array Value) (c : Nat) (ys : List Str), (∀ b o, s.heap.get? b = some o → s'.heap.get? b = some o) → s'.gens = s.gens → s'.os = s.os → s.heap.objs.size ≤ p →
      s'.heap.get? p = some (seqObj "list" out c) → StrsAre out.toList ys → ys.Perm l → sortedS ys = true → Q (.ref p) s') : wpAny (model P w) A (call (.builtin "sorted") [.ref a]) Q E s := by
  obtain ⟨⟨es, ep, t⟩, at_, F, nd, small, ris, led⟩ := R
  have many : es.size = l.length := F.sz
  have elems : ElemsOf (strKind P w) es.toList := F.el
  refine Calls.call_function_entry kind_sorted plain_sorted entry_sorted (args_sorted1 _) ?_
  unfold Builtin.«sorted»
  refine wpAny_bind (m := checkCount "sorted" 1 1 _) (wpAny_pure (wpAny_bind (collect_set (A := A.in1) (ep := ep) hh ⟨_, at_, rfl, rfl⟩ F.fit (by show es.size < scanBound; omega) ris led fun s1 vs keep size gens os pm => ?_)))
  have lenV : vs.length = l.length := by rw [pm.length_eq, List.length_map, Array.length_toList, many]
  have texts : ∀ e ∈ es.toList, ∃ tk, e.2 = Value.str (txOf e.2) tk := fun e he => by
    obtain ⟨⟨k, hk, _⟩, _⟩ := elems e he
    obtain ⟨tk, z⟩ := str_of_is hk
    exact ⟨tk, by rw [z]; rfl⟩
  have are : StrsAre vs (vs.map txOf) := are_of vs fun v hv => by
    obtain ⟨e, he, q⟩ := List.mem_map.mp (pm.mem_iff.mp hv)
    obtain ⟨tk, z⟩ := texts e he
    exact ⟨_, tk, by rw [← q]; exact z⟩
  have pl : (vs.map txOf).Perm l := perm_of_all l _ nd (fun k hk => by
    obtain ⟨e, he, z⟩ := (F.mem k).mp hk
    obtain ⟨tk, z2⟩ := str_of_is z
    exact List.mem_map.mpr ⟨e.2, pm.mem_iff.mpr (List.mem_map.mpr ⟨e, he, rfl⟩), by rw [z2]; rfl⟩) (by rw [List.length_map, lenV])
  refine wpAny_bind (wpAny_newList ?_ (by rw [lenV, sizeLine_eq]; omega))
  have new : (s1.heap.push (seqObj "list" vs.toArray 0)).get? s1.heap.objs.size = some (seqObj "list" vs.toArray 0) := Heap.get?_push_size _ rfl
  refine wpAny_bind (wpAny_holding (wpAny_call_entry slot_list_sort ⟨_, new, rfl⟩ entry_list_sort
    (list_sort_treeK strKind_oneLt new are.keysOf (fun _ _ _ e => keyKind_strs (by rw [← e]; exact are)) (by rw [lenV]; exact few) fun st' hp hs => ⟨_, rfl, ?_⟩) (args_list_sort _)))
  obtain ⟨ys, g1, g2, g3⟩ := sorted_out_str are hp hs
  obtain ⟨c, hc⟩ := sortedHeap_at (vs := vs) (out := (arrOf st').map (·.2)) new
  refine wpAny_pure ⟨_, rfl, fin _ s1.heap.objs.size _ c ys (fun b u e => ?_) gens os size hc g1 (g2.trans pl) g3⟩
  have old := keep b u e
  have lt := Heap.lt_size old
  refine (show (sortedHeap (s1.heap.push (seqObj "list" vs.toArray 0)) s1.heap.objs.size vs _).get? b = some u from ?_)
  rw [sortedHeap_old (Nat.ne_of_lt lt) (by rw [size_push']; exact Nat.lt_succ_of_lt lt)]
  exact Heap.get?_push_of_some _ old
end
section
variable {X : Cx}
/-- sorted of a set of fewer than 64 texts -/
def rSortTx (P : Program) (w : World) : List V → Hp → VK → Prop := fun vs H Q => ∃ (a : Addr) (l : List Str), vs = [.ref a] ∧ H a = some (SetTO P w a l) ∧ l.length < 64 ∧
  ∀ (ys : List Str) (p : Addr), ys.Perm l → sortedS ys = true → H p = none → Q (.ref p) (upd H p (.lst (ys.map V.str)))
theorem cr_sortTx (calm : X.calm = true) : CallR X (.builtin "sorted") (rSortTx X.prog X.w) := by
  intro pins s σ H vs us Q I r want
  obtain ⟨a, l, e, at_, few, q⟩ := want
  subst e
  rw [Vals.ref1 r]
  refine sorted_tx (setTO_get I at_) (I.ok.hd calm) few fun s' p out c ys k gn os hp hg are pl so => ?_
  have short : (ys.map V.str).length ≤ sizeLine := by
    rw [List.length_map, pl.length_eq, sizeLine_eq]
    omega
  have np : H p = none := I.hok.fresh hp
  have e : s' = { s with heap := s'.heap, gens := s'.gens, drawn := s'.drawn, toks := s'.toks } := by
    cases s'
    cases s
    cases os
    rfl
  rw [e]
  refine ⟨.ref p, upd H p (.lst (ys.map V.str)), ?_, rfl, q ys p pl so np⟩
  exact I.call (ch := []) (Un.laid k hp np) (I.hok.laid k hp ⟨short, out.toList, c, vals_of_strs are, hg⟩) (by rw [gn]; exact I.bare) fun _ z => nomatch z
end
end Tx
/-! ### a set comprehension of texts -/
namespace Tx
open PySem PySem.Spec PyProof.Rows L2
open PySem.Froz (SD sObj TxOk addTx tailTx)
section
variable {X : Cx}
theorem addT_ok {pins : List (Addr × Obj)} {σ : L2.St} {H : Hp} {s : Shared} {E : Value → Shared → Prop} {D : Addr} {l : List Str} {k : Str} {u : Tok} {Q : Value → Shared → Prop} (I : Inv X pins σ H s) (at_ : H D = some (SetTO X.prog X.w D l)) (room : l.length + 1 < scanBound)
    (fin : ∀ s', Inv X pins σ (upd H D (SetTO X.prog X.w D (ins k l))) s' → Q .none s') : wpAny (model X.prog X.w) X.A (call (.builtin "set.add") [.ref D, .str k u]) Q E s := by
  refine add_text (setTO_get I at_) room fun h' tk sb R => fin _ ?_
  obtain ⟨D', e', _⟩ := id R
  exact I.write (e := D) (t' := tk) (by rw [at_]; trivial) (.inl rfl) (fun b u hb hu => (sb.2 b hb).trans hu) ⟨_, e'⟩ (setTO_new R)
/-- what {elt for target in iter if ..} asks, elt a text: D is the new set -/
def tScT (P : Program) (w : World) (wi : TI) (g : TG) (tt : TT) (te : TE) (vs : List Nat) : TE := fun σ H Q => wi σ H fun J H1 => ∀ D, H1 D = none → ∃ W : Nat → Nat → Hp → Prop, (∃ m, W 0 m (upd H1 D (SetTO P w D []))) ∧ ∀ i m H, W i m H →
  (J.stop i H ∧ Q (.ref D) H) ∨ (J.go i H ∧ ∃ Nx : Hp → Prop, (∀ H', Nx H' → ∃ m', m' < m ∧ W (i + 1) m' H') ∧ ∀ x H', J.yld i H x H' → g x (wipe σ vs) H' fun σ2 H2 => wipe σ2 vs = wipe σ vs ∧ tt σ2 H2 fun b H3 =>
    if b = true then te σ2 H3 fun y H4 => ∃ (c : Str) (l : List Str), y = .str c ∧ H4 D = some (SetTO P w D l) ∧ l.length + 1 < scanBound ∧ Nx (upd H4 D (SetTO P w D (ins c l))) else Nx H3)
theorem pe_scT {elt tg iter : Expr} {ifs : List Expr} {scope : Scope} {own : List (PySem.Str × Nat)} {pos : Pos} {wi : TI} {g : TG} {tt : TT} {te : TE} (calm : X.calm = true) (nd : X.N.Nodup) (pi : PI X tg iter wi) (ok : BlkOk X.N X.env.scope scope own)
    (gg : ∀ (s : Shared) (H : Hp) (C : Addr) (cl : List (PySem.Str × Addr)) (fp : List Addr), PG (X.blk s H scope (compEnvC scope cl C X.env) fp) tg g)
    (gt : ∀ (s : Shared) (H : Hp) (C : Addr) (cl : List (PySem.Str × Addr)) (fp : List Addr), PTs (X.blk s H scope (compEnvC scope cl C X.env) fp) ifs tt)
    (ge : ∀ (s : Shared) (H : Hp) (C : Addr) (cl : List (PySem.Str × Addr)) (fp : List Addr), PE (X.blk s H scope (compEnvC scope cl C X.env) fp) elt te) (plain : ∀ x, foldedSetIterable iter X.env x = pure x := by intro _; rfl) :
    PE X (.SetComp elt [⟨tg, iter, ifs, 0⟩] scope pos) (tScT X.prog X.w wi g tt te (own.map (·.2))) := by
  refine ⟨fun pins s0 σ H Q I want => ?_⟩
  rw [PpSet.eval_SetComp]
  have caught : ∀ y ∈ scope.names, y.2 = .free → ∃ c, X.env.cells.lookup y.1 = some c := fun y hy e => (ok.free y hy e).elim (fun z => I.ok.has _ (.inl z)) fun z => I.ok.has _ (.inr z)
  refine wpAny_comprehension_free (use := none) rfl plain (closure_ok caught) ok.kind (fun y hy e => by rw [ok.uniq y hy, e]) (thn (pi.run pins s0 σ H _ I want) fun xv s1 hx => thn hx fun itv s2 ⟨it, fp, tn, J, H2, e2, I2, T, st2, f2, q⟩ => ?_)
  subst e2
  refine PpSet.newSet_ok (newEnv_comp ?_)
  have free2 : H2 s2.heap.objs.size = none := I2.hok.fresh (Nat.le_refl _)
  obtain ⟨W, ⟨m0, w0⟩, turn⟩ := q s2.heap.objs.size free2
  -- the new set stands at D
  have I3 := I2.laid (t' := s2.toks) (a := s2.heap.objs.size) (o := SetTO X.prog X.w s2.heap.objs.size []) (fun b o e => Heap.get?_push_of_some { cls := .type "set", dict := none, data := .set #[] 0 (.fresh 0 0 (!X.w.params.followText "set-order")) } e) (Nat.le_refl _) (setTO_new fresh_tx)
  have below : ∀ b ∈ fp, b < s2.heap.objs.size := fun b hb => let ⟨o, e, _⟩ := T.obj _ _ st2 b hb; Heap.lt_size e
  have st3 := T.keep _ _ (s2.heap.push { cls := .type "set", dict := none, data := .set #[] 0 (.fresh 0 0 (!X.w.params.followText "set-order")) }) st2 fun b _ o e => Heap.get?_push_of_some _ e
  have sz3 : (s2.heap.push { cls := .type "set", dict := none, data := .set #[] 0 (.fresh 0 0 (!X.w.params.followText "set-order")) }).objs.size = s2.heap.objs.size + 1 := size_push' _ _
  have f3 : ∀ b ∈ fp, FpOk X pins (upd H2 s2.heap.objs.size (SetTO X.prog X.w s2.heap.objs.size [])) b ∧ b < s2.heap.objs.size + 1 := fun b hb =>
    ⟨⟨by rw [upd_ne (Nat.ne_of_lt (below b hb))]; exact (f2 b hb).1, (f2 b hb).2⟩, Nat.lt_succ_of_lt (below b hb)⟩
  generalize s2.heap.objs.size = D at w0 turn I3 f3 sz3 ⊢
  generalize upd H2 D (SetTO X.prog X.w D []) = H3 at w0 I3 f3
  obtain ⟨s3, e3⟩ : ∃ s3 : Shared, s3 = { s2 with heap := s2.heap.push { cls := .type "set", dict := none, data := .set #[] 0 (.fresh 0 0 (!X.w.params.followText "set-order")) } } := ⟨_, rfl⟩
  have I3' : Inv X pins σ H3 s3 := by rw [e3]; exact I3
  have st3' : tn 0 s3.heap := by rw [e3]; exact st3
  have f3' : ∀ b ∈ fp, FpOk X pins H3 b ∧ b < s3.heap.objs.size := fun b hb => ⟨(f3 b hb).1, by rw [e3]; show b < _; rw [sz3]; exact (f3 b hb).2⟩
  rw [← e3]
  clear e3 I3 st3 f3 sz3
  -- the block's own environment
  show codeAny _ _ (.compStart (.SetComp elt [⟨tg, iter, ifs, 0⟩] scope pos) 0 (.ref it) (.ref D) (compEnvC scope (cellsFrom (s3.heap.objs.size + 1) scope.names (cloFrom X.env.cells scope.names [])) s3.heap.objs.size X.env)) _ { s3 with heap := pushCells (s3.heap.push { cls := .type "dict", data := .dict #[] }) scope.names }
  have I4 := block_start I3' ok nd f3'
  have st4 : tn 0 (pushCells (s3.heap.push { cls := .type "dict", data := .dict #[] }) scope.names) := T.keep _ _ _ st3' fun b _ o e => pushCells_keeps _ _ _ _ (Heap.get?_push_of_some _ e)
  generalize cellsFrom (s3.heap.objs.size + 1) scope.names (cloFrom X.env.cells scope.names []) = cells at I4 ⊢
  have pg := gg s3 H3 s3.heap.objs.size cells fp
  have pt := gt s3 H3 s3.heap.objs.size cells fp
  have pe := ge s3 H3 s3.heap.objs.size cells fp
  have free3 : ∀ b ∈ fp, H3 b = none := fun b hb => (f3' b hb).1.1
  generalize hce : compEnvC scope cells s3.heap.objs.size X.env = ce at I4 pg pt pe ⊢
  have cL : ce.locals = s3.heap.objs.size := by rw [← hce]; rfl
  generalize hs4 : ({ s3 with heap := pushCells (s3.heap.push { cls := .type "dict", data := .dict #[] }) scope.names } : Shared) = s4 at I4 ⊢
  have st4' : tn 0 s4.heap := by rw [← hs4]; exact st4
  let B := X.blk s3 H3 scope ce fp
  -- what the loop keeps
  let Kp : Nat → Shared → Prop := fun n s' => ∃ i H', Inv B [] (wipe σ (own.map (·.2))) H' s' ∧ tn i s'.heap ∧ (∀ b ∈ fp, H' b = none) ∧ W i n H'
  have held : ∀ {σ' : L2.St} {H' : Hp} {s' : Shared}, Inv B [] σ' H' s' → (∀ b ∈ fp, H' b = none) → ∀ b ∈ fp, FpOk B [] H' b := fun J n b hb => ⟨n b hb, (J.ok.exf b hb).1, J.ok.exfs b hb, .inl hb, fun x c e => (J.ok.exf b hb).2 x c e, fun p hp => (List.not_mem_nil hp).elim⟩
  refine PpSet.codeAny_compStart_set (?loop) (T.self X.A 0 _ _ _ st4' ?loop)
  refine PpSet.compLoopS_any Kp ?_ m0 ⟨0, H3, I4, st4', free3, w0⟩
  rintro n s5 ⟨i, H5, I5, st5, n5, w5⟩
  rcases turn i n H5 w5 with ⟨stop, fin⟩ | ⟨go, Nx, less, step⟩
  · refine thnF (T.done B rfl rfl rfl calm i [] s5 _ H5 (fun _ _ => False) I5 (held I5 n5) st5 stop) fun r s6 ⟨hr, I6⟩ => ?_
    subst hr
    have I7 : Inv X pins σ H5 s6 := I3'.call' (ch := fp) I6.os I6.base I6.hok I6.bare fun b hb => ⟨(f3' b hb).1.2.2.2.1, (f3' b hb).1.2.1, (f3' b hb).1.2.2.2.2.1, (f3' b hb).1.2.2.2.2.2⟩
    obtain ⟨m, hn, _⟩ := I6.loc
    have hn' : s6.heap.Ns ce.locals m := hn
    have nC : H5 ce.locals = none := I6.free
    rw [cL] at hn' nC
    obtain ⟨f0, f1, f2, f3, f4, f5⟩ := I3'.fpOk (Nat.le_refl _) nC
    exact ⟨m, hn', fun h'' sb => ⟨.ref D, H5, I7.turned (t' := s6.toks) (fun b o hb e => (sb.2 b hb).trans e) f0 f1 f3 f4 f5, rfl, fin⟩⟩
  · refine thnF (T.item B rfl rfl rfl calm i [] s5 _ H5 (fun _ _ => False) I5 (held I5 n5) st5 go) fun r s6 ⟨u, hr, h6⟩ => ?_
    subst hr
    refine thnF h6 fun _ s7 ⟨x, H7, I7, r7, y7, st7, n7⟩ => ?_
    have pinned := I7.pinned (held I7 n7) (T.obj _ _ st7)
    refine thnF (pg.run _ s7 _ H7 x u _ pinned r7 (step x H7 y7)) fun _ s8 ⟨σ8, H8, I8, hw8, q8⟩ => thnF (pt.run _ s8 σ8 H8 _ I8 q8) fun b s9 ⟨H9, I9, q9⟩ => ?_
    -- the end of a turn
    have ends : ∀ {s' : Shared} {H' : Hp}, Inv B ([] ++ pinsAt fp s7.heap) σ8 H' s' → Nx H' → ∃ m, m < n ∧ Kp m s' := fun {s' H'} J nx => by
      obtain ⟨m', hm, w'⟩ := less H' nx
      have at7 : ∀ b ∈ fp, ∀ o, s7.heap.get? b = some o → s'.heap.get? b = some o ∧ H' b = none := fun b hb o e => by
        obtain ⟨z1, z2, _⟩ := J.pin (b, o) (List.mem_append_right _ (List.mem_append_right _ (mem_pinsAt hb e)))
        exact ⟨z1, z2⟩
      refine ⟨m', hm, i + 1, H', (J.unpinned (pins := [])).weak (by rw [← hw8, wipe_length]) (fun j v e => ?_), T.keep _ _ _ st7 fun b hb o e => (at7 b hb o e).1, fun b hb => ?_, w'⟩
      · rw [← hw8] at e
        exact (wipe_some e).1
      · obtain ⟨o, e, _⟩ := T.obj _ _ st7 b hb
        exact (at7 b hb o e).2
    cases b with
    | false =>
      simp only [Bool.false_eq_true, if_false] at q9 ⊢
      exact ends I9 q9
    | true =>
      simp only [if_true] at q9 ⊢
      refine thnF (pe.run _ s9 σ8 H9 _ I9 q9) fun z s10 ⟨yv, H10, I10, r10, c, l, ey, at10, room, nx⟩ => ?_
      subst ey
      obtain ⟨tk, rfl⟩ := r10
      exact addT_ok (X := B) I10 at10 room fun s11 I11 => ends I11 nx
end
end Tx
/-! ### such a comprehension over a tuple, over a list -/
namespace Tx
open PySem PySem.Spec PyProof.Rows L2
theorem scT_any {P : Program} {w : World} {J : It} {xs : List V} {g : TG} {tt : TT} {te : TE} {vs : List Nat} {σ : L2.St} {H1 : Hp} {D : Addr} {Qd : Hp → Prop} {Sq : Hp → Prop} (go : ∀ i H, Sq H → i < xs.length → J.go i H) (stop : ∀ H, Sq H → J.stop xs.length H)
    (yld : ∀ i H x H', Sq H → i < xs.length → J.yld i H x H' → H' = H ∧ xs[i]? = some x) (Pv : Nat → Hp → Prop) (h0 : Pv 0 (upd H1 D (SetTO P w D []))) (hl : ∀ i H, i ≤ xs.length → Pv i H → Sq H)
    (hs : ∀ i x H, xs[i]? = some x → Pv i H → g x (wipe σ vs) H fun σ2 H2 => wipe σ2 vs = wipe σ vs ∧ tt σ2 H2 fun b H3 =>
      if b = true then te σ2 H3 fun y H4 => ∃ (c : Str) (l : List Str), y = .str c ∧ H4 D = some (SetTO P w D l) ∧ l.length + 1 < scanBound ∧ Pv (i + 1) (upd H4 D (SetTO P w D (ins c l))) else Pv (i + 1) H3) (hd : ∀ H, Pv xs.length H → Qd H) :
    ∃ W : Nat → Nat → Hp → Prop, (∃ m, W 0 m (upd H1 D (SetTO P w D []))) ∧ ∀ i m H, W i m H → (J.stop i H ∧ Qd H) ∨ (J.go i H ∧ ∃ Nx : Hp → Prop, (∀ H', Nx H' → ∃ m', m' < m ∧ W (i + 1) m' H') ∧ ∀ x H', J.yld i H x H' → g x (wipe σ vs) H' fun σ2 H2 => wipe σ2 vs = wipe σ vs ∧ tt σ2 H2 fun b H3 =>
      if b = true then te σ2 H3 fun y H4 => ∃ (c : Str) (l : List Str), y = .str c ∧ H4 D = some (SetTO P w D l) ∧ l.length + 1 < scanBound ∧ Nx (upd H4 D (SetTO P w D (ins c l))) else Nx H3) := by
  refine ⟨fun i m H => m + i = xs.length ∧ Pv i H, ⟨xs.length, rfl, h0⟩, fun i m H ⟨len, pv⟩ => ?_⟩
  have sq := hl i H (by omega) pv
  by_cases more : i < xs.length
  · refine .inr ⟨go i H sq more, Pv (i + 1), fun H' p' => ⟨m - 1, by omega, by omega, p'⟩, fun x H' y => ?_⟩
    obtain ⟨e, hx⟩ := yld i H x H' sq more y
    subst e
    exact hs i x _ hx pv
  · have e : i = xs.length := by omega
    subst e
    exact .inl ⟨stop H sq, hd H pv⟩
theorem itt_go {K : PySem.W.Frag} {a : Addr} {xs : List V} : ∀ i H, SqT K H a xs → i < xs.length → (Itt K a).go i H := fun i H q lt => ⟨xs, xs[i], q, by simp [lt]⟩
theorem itt_stop {K : PySem.W.Frag} {a : Addr} {xs : List V} : ∀ H, SqT K H a xs → (Itt K a).stop xs.length H := fun H q => ⟨xs, q, Nat.le_refl _⟩
theorem itt_yld {K : PySem.W.Frag} {a : Addr} {xs : List V} : ∀ i H x H', SqT K H a xs → i < xs.length → (Itt K a).yld i H x H' → H' = H ∧ xs[i]? = some x := fun i H x H' q _ y => ⟨y.1, y.2 xs q⟩
theorem itl_go {K : PySem.W.Frag} {a : Addr} {xs : List V} : ∀ i H, SqL K H a xs → i < xs.length → (Itl K a).go i H := fun i H q lt => ⟨xs, xs[i], q, by simp [lt]⟩
theorem itl_stop {K : PySem.W.Frag} {a : Addr} {xs : List V} : ∀ H, SqL K H a xs → (Itl K a).stop xs.length H := fun H q => ⟨xs, q, Nat.le_refl _⟩
theorem itl_yld {K : PySem.W.Frag} {a : Addr} {xs : List V} : ∀ i H x H', SqL K H a xs → i < xs.length → (Itl K a).yld i H x H' → H' = H ∧ xs[i]? = some x := fun i H x H' q _ y => ⟨y.1, y.2 xs q⟩
end Tx

/-! K13 -/
/-! ### the names that items name -/
namespace Tr
open PySem PySem.Spec PyProof.Rows L2 Rw
/-- an item of one of the words has a name -/
def NmOk (ws : List Str) (d : D) : Prop := ∃ w r, d = .tuple (.str w :: r) ∧ (w ∈ ws → ∃ n r', r = .str n :: r')
def nmI : D → Str
  | .tuple (_ :: .str n :: _) => n
  | _ => Str.empty
def namesF (ws : List Str) (ds : List D) : List Str := ds.foldl (fun l d => if wD d ∈ ws then Tx.ins (nmI d) l else l) []
theorem namesF_snoc (ws : List Str) (ds : List D) (d : D) : namesF ws (ds ++ [d]) = if wD d ∈ ws then Tx.ins (nmI d) (namesF ws ds) else namesF ws ds := by
  unfold namesF
  rw [List.foldl_append]
  rfl
theorem namesF_len (ws : List Str) (ds : List D) : (namesF ws ds).length ≤ ds.length := by
  have z : ∀ (ss : List D) (l : List Str), (ss.foldl (fun l d => if wD d ∈ ws then Tx.ins (nmI d) l else l) l).length ≤ l.length + ss.length := by
    intro ss
    induction ss with
    | nil => exact fun l => Nat.le_refl _
    | cons s ss ih =>
      intro l
      rw [List.foldl_cons]
      refine Nat.le_trans (ih _) ?_
      have t := Tx.ins_len (nmI s) l
      rw [List.length_cons]
      split <;> omega
  have y := z ds []
  rw [List.length_nil, Nat.zero_add] at y
  exact y
def spNi (K : PySem.W.Frag) (n : Nat) : Sp := fun vs H Q _ => ∃ (p q : Addr) (xs : List V) (ds : List D) (ws : List Str), vs = [.ref p, .ref q] ∧ SqT K H p xs ∧ DpAll K H xs ds ∧ Fits n ds ∧ (∀ d ∈ flat ds, BrOk d ∧ PcOk d) ∧ (flat ds).length ≤ 800 ∧
  (∀ H', Same H H' → SqT K H' q (ws.map V.str)) ∧ (∀ d ∈ fwp ds, NmOk ws d) ∧ (fwp ds).length < 64 ∧
  ∀ H' l ys, Same H H' → H l = none → H' l = some (.lst (ys.map V.str)) → ys.Perm (namesF ws (fwp ds)) → sortedS ys = true → Q (.ref l) H'
section
variable {P : Program} {w : World} {K : PySem.W.Frag} {mg : Str → Option Value} {base : Heap}
abbrev sNi : Stmt := top 28
theorem scNi : FnScope ["items", "words", "item"] ["items", "words"] (defScope sNi) := ⟨rfl, rfl, rfl, by decide +kernel, rfl, by decide +kernel, by decide +kernel⟩
theorem ok_ni {f fF : Addr} {fd fdF : FuncData} (F : Fun K "names_in" "names_in" sNi f fd) (n : Nat) (GF : FnOk P w K mg base CX0 (n + 4) fF fdF ["items"] (spFwp K (n + 1))) (TF : Called K mg "flat_with_pieces" ["items"] fF fdF) (m_sorted : mg "sorted" = none) : FnOk P w K mg base CX0 (n + 5) f fd ["items", "words"] (spNi K (n + 1)) := by
  refine F.ok scNi (fun vs H Q E h => ?_) (fun cdv A outer s H vs Q E hr h => ?_)
  · obtain ⟨p, q, xs, ds, ws, rfl, _⟩ := h
    rfl
  · obtain ⟨p, qa, xs, ds, ws, rfl, hp, ha, ft, br, hz, hw, nm, l64, q⟩ := h
    refine ⟨_, (pss_one (ps_ret (pe_callB (Tx.cr_sortTx rfl) (by rfl) m_sorted (by decide +kernel) (pa_cons (Tx.pe_scT (own := [("item", 2)]) (g := gName 2) rfl scNi.nd (pi_list (pe_call GF (hr.mono (by first | decide | omega)) rfl TF.1 TF.2.1 TF.2.2 .nil pass0 (pa_cons (pv 0) pa_nil))) (blkOk_by (own := [("item", 2)]) (N := ["items", "words", "item"]) (sc := defScope sNi) (by decide +kernel)) (fun _ _ _ _ _ => pg_name (i := 2) scNi.nd rfl (Or.inl rfl)) (fun _ _ _ _ _ => pts_one (pt_cmpR (op_in_seqKK (K := K) rfl) (pe_ix (ix_tupK (K := K) rfl) (pv 2) pe_int (fun _ _ => rfl)) (pv 1) (by rfl))) (fun _ _ _ _ _ => (pe_ix (ix_tupK (K := K) rfl) (pv 2) pe_int (fun _ _ => rfl)))) pa_nil)))), ?_⟩
    refine ⟨_, rfl, p, xs, ds, rfl, hp, ha, ft, br, hz, fun H2 l2 ys s2 n2 h2 hy => ?_⟩
    have ly := dpl hy
    refine ⟨l2, rfl, ⟨ys, SqL.of h2⟩, fun D nD => Tx.scT_any (J := Itl K l2) (Sq := fun H => SqL K H l2 ys) Tx.itl_go Tx.itl_stop Tx.itl_yld
          (fun i H' => Same H2 H' ∧ H' D = some (Tx.SetTO P w D (namesF ws ((fwp ds).take i)))) ⟨same_upd nD, upd_same⟩ (fun i H' _ h => SqL.of (h.1 _ _ h2)) ?_ ?_⟩
    · rintro i x H' hx ⟨s1, hD⟩
      obtain ⟨d, hd, hx⟩ := dp_get hy hx
      have mem : d ∈ fwp ds := List.mem_of_getElem? hd
      have lt : i < (fwp ds).length := (List.getElem?_eq_some_iff.mp hd).1
      obtain ⟨w', r, rfl, hn⟩ := nm d mem
      have sH := s2.trans s1
      cases id hx with
      | @tup px xr _ hpx hax =>
      cases hax with
      | @cons x0 xr _ _ h0 hax =>
      cases h0
      refine ⟨rfl, ?_⟩
      refine ⟨_, rfl, px, _, _, _, rfl, rfl, sH.tupS hpx, at0, _, rfl, qa, _, rfl, .inr (hw _ sH), rfl, flat_txt _, _, rfl, ?_⟩
      rw [inV_txt]
      have nxt := namesF_snoc ws ((fwp ds).take i) (.tuple (.str w' :: r))
      rw [← take_snoc hd] at nxt
      have ew : wD (.tuple (.str w' :: r)) = w' := rfl
      rw [ew] at nxt
      by_cases hkz : w' ∈ ws
      · rw [decide_eq_true hkz]
        rw [if_pos hkz] at nxt
        obtain ⟨nn, r', rfl⟩ := hn hkz
        cases hax with
        | @cons x1 xr2 _ _ h1 hax =>
        cases h1
        refine iteT ⟨_, rfl, px, _, 1, .str nn, rfl, rfl, sH.tupS hpx, at1, nn, _, rfl, hD, ?_, same_updN nD s1, ?_⟩
        · have l1 := namesF_len ws ((fwp ds).take i)
          rw [List.length_take] at l1
          show _ < 4096
          omega
        · rw [upd_same, nxt]
          rfl
      · rw [decide_eq_false hkz]
        rw [if_neg hkz] at nxt
        exact iteF ⟨s1, by rw [hD, nxt]⟩
    · rintro H' ⟨s1, hD⟩
      rw [ly, List.take_length] at hD
      have l1 := namesF_len ws (fwp ds)
      refine ⟨D, _, rfl, hD, by omega, fun ys' p' pm so np' => ?_⟩
      exact q _ p' ys' ((s2.trans s1).trans (same_upd np')) ((s2.trans s1).free np') upd_same pm so
end
end Tr

/-! K14 -/
/-! ### a body's names and its size -/
namespace Tr
open PySem PySem.Spec PyProof.Rows L2 Rw
def flagW : List Str := ["test", "set", "clear"]
def lockW : List Str := ["take", "give", "piece"]
def workW : List Str := ["start", "cancel"]
def spNb (K : PySem.W.Frag) (C : Addr) (n : Nat) (ws : List Str) : Sp := fun vs H Q _ => ∃ (a dx p : Addr) (fs : List (Str × V)) (xs : List V) (ds : List D), vs = [.ref a] ∧ H a = some (.ins C dx fs) ∧ fs.lookup ("_code" : Str) = some (.ref p) ∧ SqT K H p xs ∧ DpAll K H xs ds ∧ Fits n ds ∧ (∀ d ∈ flat ds, BrOk d ∧ PcOk d) ∧ (flat ds).length ≤ 800 ∧
  (∀ d ∈ fwp ds, NmOk ws d) ∧ (fwp ds).length < 64 ∧
  ∀ H' l ys, Same H H' → H l = none → H' l = some (.lst (ys.map V.str)) → ys.Perm (namesF ws (fwp ds)) → sortedS ys = true → Q (.ref l) H'
def spMy (K : PySem.W.Frag) (n : Nat) : Sp := fun vs H Q _ => ∃ (p : Addr) (xs : List V) (ds : List D), vs = [.ref p] ∧ SqT K H p xs ∧ DpAll K H xs ds ∧ Fits n ds ∧ (∀ d ∈ flat ds, BrOk d ∧ PcOk d) ∧ (flat ds).length ≤ 800 ∧
  (∀ d ∈ fwp ds, NmOk ["start"] d) ∧ (fwp ds).length < 64 ∧
  ∀ H' l ys, Same H H' → H l = none → H' l = some (.lst (ys.map V.str)) → ys.Perm (namesF ["start"] (fwp ds)) → sortedS ys = true → Q (.ref l) H'
def spSzB (C : Addr) : Sp := fun vs H Q _ => ∃ (a dx l : Addr) (fs : List (Str × V)) (xs : List V), vs = [.ref a] ∧ H a = some (.ins C dx fs) ∧ fs.lookup ("_listed" : Str) = some (.ref l) ∧ H l = some (.lst xs) ∧ Q (.int (xs.length : Nat)) H
section
variable {P : Program} {w : World} {K : PySem.W.Frag} {mg : Str → Option Value} {base : Heap}
abbrev sFlg : Stmt := inClass (top 38) 8
theorem scFlg : FnScope ["self"] ["self"] (defScope sFlg) := ⟨rfl, rfl, rfl, by decide +kernel, rfl, by decide +kernel, by decide +kernel⟩
abbrev sLck : Stmt := inClass (top 38) 9
theorem scLck : FnScope ["self"] ["self"] (defScope sLck) := ⟨rfl, rfl, rfl, by decide +kernel, rfl, by decide +kernel, by decide +kernel⟩
abbrev sWrk : Stmt := inClass (top 38) 10
theorem scWrk : FnScope ["self"] ["self"] (defScope sWrk) := ⟨rfl, rfl, rfl, by decide +kernel, rfl, by decide +kernel, by decide +kernel⟩
abbrev sMay : Stmt := top 17
theorem scMay : FnScope ["items"] ["items"] (defScope sMay) := ⟨rfl, rfl, rfl, by decide +kernel, rfl, by decide +kernel, by decide +kernel⟩
abbrev sSzB : Stmt := inClass (top 38) 2
theorem scSzB : FnScope ["self"] ["self"] (defScope sSzB) := ⟨rfl, rfl, rfl, by decide +kernel, rfl, by decide +kernel, by decide +kernel⟩
abbrev sLnB : Stmt := inClass (top 38) 3
theorem scLnB : FnScope ["self"] ["self"] (defScope sLnB) := ⟨rfl, rfl, rfl, by decide +kernel, rfl, by decide +kernel, by decide +kernel⟩
theorem ok_flags {f fN C aF : Addr} {fd fdN : FuncData} (F : Fun K "flags" "Body.flags" sFlg f fd) (cl : Cls K C) (n1 : NoAttr K C "_code") (n : Nat) (GN : FnOk P w K mg base CX0 (n + 5) fN fdN ["items", "words"] (spNi K (n + 1))) (TN : Called K mg "names_in" ["items", "words"] fN fdN) (gF : mg "FLAG_WORDS" = some (.ref aF)) (hF : ∀ H : Hp, SqT K H aF (flagW.map V.str)) :
    FnOk P w K mg base CX0 (n + 6) f fd ["self"] (spNb K C (n + 1) flagW) := by
  refine F.ok scFlg (fun vs H Q E h => ?_) (fun cdv A outer s H vs Q E hr h => ?_)
  · obtain ⟨a, dx, p, fs, xs, ds, rfl, _⟩ := h
    rfl
  · obtain ⟨a, dx, p, fs, xs, ds, rfl, hi, hf, hp, ha, ft, br, hz, nm, l64, q⟩ := h
    refine ⟨_, (pss_one (ps_ret (pe_call GN (hr.mono (by first | decide | omega)) rfl TN.1 TN.2.1 TN.2.2 .nil pass0 (pa_cons (pe_fld (pv 0) rfl) (pa_cons (pe_glob (v := .ref aF) rfl gF rfl) pa_nil))))), ?_⟩
    exact ⟨_, rfl, a, C, dx, fs, _, rfl, hi, cl, n1, hf, p, aF, xs, ds, flagW, rfl, hp, ha, ft, br, hz, fun H' _ => hF H', nm, l64, q⟩
theorem ok_locks {f fN C aF : Addr} {fd fdN : FuncData} (F : Fun K "locks" "Body.locks" sLck f fd) (cl : Cls K C) (n1 : NoAttr K C "_code") (n : Nat) (GN : FnOk P w K mg base CX0 (n + 5) fN fdN ["items", "words"] (spNi K (n + 1))) (TN : Called K mg "names_in" ["items", "words"] fN fdN) (gF : mg "LOCK_WORDS" = some (.ref aF)) (hF : ∀ H : Hp, SqT K H aF (lockW.map V.str)) :
    FnOk P w K mg base CX0 (n + 6) f fd ["self"] (spNb K C (n + 1) lockW) := by
  refine F.ok scLck (fun vs H Q E h => ?_) (fun cdv A outer s H vs Q E hr h => ?_)
  · obtain ⟨a, dx, p, fs, xs, ds, rfl, _⟩ := h
    rfl
  · obtain ⟨a, dx, p, fs, xs, ds, rfl, hi, hf, hp, ha, ft, br, hz, nm, l64, q⟩ := h
    refine ⟨_, (pss_one (ps_ret (pe_call GN (hr.mono (by first | decide | omega)) rfl TN.1 TN.2.1 TN.2.2 .nil pass0 (pa_cons (pe_fld (pv 0) rfl) (pa_cons (pe_glob (v := .ref aF) rfl gF rfl) pa_nil))))), ?_⟩
    exact ⟨_, rfl, a, C, dx, fs, _, rfl, hi, cl, n1, hf, p, aF, xs, ds, lockW, rfl, hp, ha, ft, br, hz, fun H' _ => hF H', nm, l64, q⟩
theorem ok_works {f fN C aF : Addr} {fd fdN : FuncData} (F : Fun K "works" "Body.works" sWrk f fd) (cl : Cls K C) (n1 : NoAttr K C "_code") (n : Nat) (GN : FnOk P w K mg base CX0 (n + 5) fN fdN ["items", "words"] (spNi K (n + 1))) (TN : Called K mg "names_in" ["items", "words"] fN fdN) (gF : mg "WORK_WORDS" = some (.ref aF)) (hF : ∀ H : Hp, SqT K H aF (workW.map V.str)) :
    FnOk P w K mg base CX0 (n + 6) f fd ["self"] (spNb K C (n + 1) workW) := by
  refine F.ok scWrk (fun vs H Q E h => ?_) (fun cdv A outer s H vs Q E hr h => ?_)
  · obtain ⟨a, dx, p, fs, xs, ds, rfl, _⟩ := h
    rfl
  · obtain ⟨a, dx, p, fs, xs, ds, rfl, hi, hf, hp, ha, ft, br, hz, nm, l64, q⟩ := h
    refine ⟨_, (pss_one (ps_ret (pe_call GN (hr.mono (by first | decide | omega)) rfl TN.1 TN.2.1 TN.2.2 .nil pass0 (pa_cons (pe_fld (pv 0) rfl) (pa_cons (pe_glob (v := .ref aF) rfl gF rfl) pa_nil))))), ?_⟩
    exact ⟨_, rfl, a, C, dx, fs, _, rfl, hi, cl, n1, hf, p, aF, xs, ds, workW, rfl, hp, ha, ft, br, hz, fun H' _ => hF H', nm, l64, q⟩
theorem ok_may {f fN : Addr} {fd fdN : FuncData} (F : Fun K "may_start" "may_start" sMay f fd) (n : Nat) (GN : FnOk P w K mg base CX0 (n + 5) fN fdN ["items", "words"] (spNi K (n + 1))) (TN : Called K mg "names_in" ["items", "words"] fN fdN) :
    FnOk P w K mg base CX0 (n + 6) f fd ["items"] (spMy K (n + 1)) := by
  refine F.ok scMay (fun vs H Q E h => ?_) (fun cdv A outer s H vs Q E hr h => ?_)
  · obtain ⟨p, xs, ds, rfl, _⟩ := h
    rfl
  · obtain ⟨p, xs, ds, rfl, hp, ha, ft, br, hz, nm, l64, q⟩ := h
    refine ⟨_, (pss_one (ps_ret (pe_call GN (hr.mono (by first | decide | omega)) rfl TN.1 TN.2.1 TN.2.2 .nil pass0 (pa_cons (pv 0) (pa_cons (pe_tup (pa_cons pe_str pa_nil)) pa_nil))))), ?_⟩
    refine ⟨_, rfl, Nat.le_of_ble_eq_true rfl, fun t nt => ?_⟩
    have s1 : Same H (upd H t (.tup [.str "start"])) := same_upd nt
    have e1 : (upd H t (.tup [.str "start"])) t = some (.tup [.str "start"]) := upd_same
    exact ⟨p, t, xs, ds, ["start"], rfl, s1.tupS hp, ha.same s1, ft, br, hz, fun H' s => SqT.of (s _ _ e1), nm, l64, fun H' l ys s nl hl pm so => q H' l ys (s1.trans s) (s1.free nl) hl pm so⟩
theorem ok_size {f C : Addr} {fd : FuncData} (F : Fun K "size" "Body.size" sSzB f fd) (cl : Cls K C) (n1 : NoAttr K C "_listed") (m_len : mg "len" = none) : FnOk P w K mg base CX0 1 f fd ["self"] (spSzB C) := by
  refine F.ok scSzB (fun vs H Q E h => ?_) (fun cdv A outer s H vs Q E hr h => ?_)
  · obtain ⟨a, dx, l, fs, xs, rfl, _⟩ := h
    rfl
  · obtain ⟨a, dx, l, fs, xs, rfl, hi, hf, hl, q⟩ := h
    refine ⟨_, (pss_one (ps_ret (pe_callB (call_len_K (K := K) rfl) (by rfl) m_len PySem.boot_len (pa_cons (pe_fld (pv 0) rfl) pa_nil)))), ?_⟩
    exact ⟨_, rfl, a, C, dx, fs, _, rfl, hi, cl, n1, hf, l, xs, rfl, .inl (SqL.of hl), q⟩
theorem ok_lenB {f C : Addr} {fd : FuncData} (F : Fun K "__len__" "Body.__len__" sLnB f fd) (cl : Cls K C) (n1 : NoAttr K C "_listed") (m_len : mg "len" = none) : FnOk P w K mg base CX0 1 f fd ["self"] (spSzB C) := by
  refine F.ok scLnB (fun vs H Q E h => ?_) (fun cdv A outer s H vs Q E hr h => ?_)
  · obtain ⟨a, dx, l, fs, xs, rfl, _⟩ := h
    rfl
  · obtain ⟨a, dx, l, fs, xs, rfl, hi, hf, hl, q⟩ := h
    refine ⟨_, (pss_one (ps_ret (pe_callB (call_len_K (K := K) rfl) (by rfl) m_len PySem.boot_len (pa_cons (pe_fld (pv 0) rfl) pa_nil)))), ?_⟩
    exact ⟨_, rfl, a, C, dx, fs, _, rfl, hi, cl, n1, hf, l, xs, rfl, .inl (SqL.of hl), q⟩
end
end Tr

/-! K15 -/
/-! ### set(list of texts) -/
namespace Tx
open PySem PySem.Spec PyProof.Rows L2
def allIns (ks : List Str) : List Str := ks.foldl (fun l k => ins k l) []
theorem allIns_snoc (ks : List Str) (k : Str) : allIns (ks ++ [k]) = ins k (allIns ks) := by
  unfold allIns
  rw [List.foldl_append]
  rfl
theorem allIns_len (ks : List Str) : (allIns ks).length ≤ ks.length := by
  have z : ∀ (ss : List Str) (l : List Str), (ss.foldl (fun l k => ins k l) l).length ≤ l.length + ss.length := by
    intro ss
    induction ss with
    | nil => exact fun l => Nat.le_refl _
    | cons s ss ih =>
      intro l
      rw [List.foldl_cons]
      refine Nat.le_trans (ih _) ?_
      have t := ins_len s l
      rw [List.length_cons]
      omega
  have y := z ks []
  rw [List.length_nil, Nat.zero_add] at y
  exact y
theorem take_snoc' {α : Type} {xs : List α} {i : Nat} {x : α} (h : xs[i]? = some x) : xs.take (i + 1) = xs.take i ++ [x] := by
  rw [List.take_add_one, h]
  rfl
theorem strs_len {vs : List Value} {ks : List Str} (h : StrsAre vs ks) : vs.length = ks.length := by
  induction h with
  | nil => rfl
  | cons _ _ _ ih => rw [List.length_cons, List.length_cons, ih]
theorem strs_at {vs : List Value} {ks : List Str} (h : StrsAre vs ks) : ∀ {i : Nat} {v : Value}, vs[i]? = some v → ∃ k u, ks[i]? = some k ∧ v = .str k u := by
  induction h with
  | nil => intro i v e; simp at e
  | cons k u _ ih =>
    intro i v e
    cases i with
    | zero => exact ⟨k, u, rfl, (Option.some.inj e).symm⟩
    | succ i => exact ih e
section
variable {P : Program} {w : World} {A : Around} {E : Value → Shared → Prop} {s : Shared}
/-- set.update's loop -/
theorem set_update_txt {I : Addr} {fp wr : List Addr} {G : Array GenState → Array GenState → Prop} {n : Nat} {Pv : Nat → Value → Prop} {St : Nat → Shared → Prop} {R : Result → Shared → Prop}
    (W : WalksS P w A.in1 I fp wr G n Pv St) (Sa : Addr) (hSf : Sa ∉ fp) (ks : List Str) (hn : n = ks.length) (hfew : ks.length < 4000) (hval : ∀ i v, Pv i v → ∃ k u, ks[i]? = some k ∧ v = .str k u)
    (h0 : Heap) (hS0 : h0.get? Sa = none) (hw0 : ∀ b ∈ wr, h0.get? b = none) :
    ∀ (k i : Nat) (s : Shared), n - i = k → i ≤ n → St i s → (∀ b o, h0.get? b = some o → s.heap.get? b = some o) → SetTx P w s.heap Sa (allIns (ks.take i)) →
      (∀ s', Moved (Sa :: wr) G s s' → SetTx P w s'.heap Sa (allIns ks) → (∀ b o, h0.get? b = some o → s'.heap.get? b = some o) → R (.ok (.ret .none)) s') →
      codeAny (model P w) A (.builtin "set.update.loop" ⟨[.ref Sa, .ref I], []⟩) R s := by
  have hSw : Sa ∉ wr := fun h => hSf (W.sub _ h)
  have hsub : ∀ b ∈ wr, b ∈ Sa :: wr := fun b hb => List.mem_cons_of_mem _ hb
  have keepM : ∀ {s s' : Shared}, Moved wr G s s' → (∀ b o, h0.get? b = some o → s.heap.get? b = some o) → ∀ b o, h0.get? b = some o → s'.heap.get? b = some o := fun hm hkp b o e =>
    hm.heap b o (fun hb => by rw [hw0 b hb] at e; cases e) (hkp b o e)
  intro k
  induction k with
  | zero =>
    intro i s hk' hi hst hkp hS hR
    have hin : i = n := by omega
    subst hin
    refine codeAny_builtin F.entry_set_update_loop ?_
    rw [Around.under_plainId F.plain_set_update_loop _]
    show wpAny _ A.in1 (pyNext (.ref I) >>= _) _ _ s
    refine wpAny_bind (W.done s _ _ hst fun s' hm => ?_)
    show wpAny _ A.in1 (ret Value.none) _ _ s'
    have hkp' := keepM hm hkp
    rw [hn, List.take_length] at hS
    exact wpAny_pure (hR s' (hm.mono hsub) (hS.at fun o e => hm.heap Sa o hSw e) hkp')
  | succ k ih =>
    intro i s hk' hi hst hkp hS hR
    have hlt : i < n := by omega
    refine codeAny_builtin F.entry_set_update_loop ?_
    rw [Around.under_plainId F.plain_set_update_loop _]
    show wpAny _ A.in1 (pyNext (.ref I) >>= _) _ _ s
    refine wpAny_bind (W.item i s _ _ hlt hst fun v s' hP hst' hm => ?_)
    obtain ⟨kk, u, hp, rfl⟩ := hval i v hP
    have hkp' := keepM hm hkp
    have hS' : SetTx P w s'.heap Sa (allIns (ks.take i)) := hS.at fun o e => hm.heap Sa o hSw e
    show wpAny _ A.in1 (holding [Value.str kk u] (setAdd Sa (.str kk u)) >>= _) _ _ s'
    refine wpAny_bind (wpAny_holding ?_)
    unfold setAdd
    refine wpAny_holding ?_
    refine wpAny_bind ((strKind P w).pyHash (PySem.Froz.is_str kk u) ?_)
    refine add_hashed (s := { s' with toks := s'.toks + 1 }) hS' ?_ fun h' b hsb hS2 => ?_
    · have l1 := allIns_len (ks.take i)
      rw [List.length_take] at l1
      show _ < 4096
      omega
    have nx := allIns_snoc (ks.take i) kk
    rw [← take_snoc' hp] at nx
    rw [← nx] at hS2
    have hkp2 : ∀ b o, h0.get? b = some o → h'.get? b = some o := fun b o e => (hsb.2 b (fun z => by rw [z, hS0] at e; cases e)).trans (hkp' b o e)
    refine wpAny_pure ⟨plainId_quiet F.plain_set_update_loop _, ih (i + 1) _ (by omega) hlt (W.frame _ s' _ _ hst' (Nat.le_add_right _ _) fun b hb o e => ?_) hkp2 hS2 fun s'' hm'' hS'' hkp'' => ?_⟩
    · rw [hsb.2 b (fun h : b = Sa => hSf (by rw [← h]; exact hb))]; exact e
    · refine hR s'' (Moved.trans W.gtrans ((hm.mono hsub).then_heap (Nat.le_add_right _ _) fun b o hb e => ?_) hm'') hS'' hkp''
      rw [hsb.2 b (fun h : b = Sa => hb (by rw [h]; exact List.mem_cons_self))]; exact e
set_option maxRecDepth 100000 in
set_option maxHeartbeats 3200000 in
/-- set(xs) -/
theorem call_set_txt {l : Addr} {items : Array Value} (ks : List Str) {Q : Value → Shared → Prop} (hh : A.handled = none) (hl : s.heap.IsList l items) (hit : StrsAre items.toList ks) (hfew : ks.length < 4000)
    (h : ∀ (h' : Heap) (tk : Nat), SetTx P w h' s.heap.objs.size (allIns ks) → (∀ b o, s.heap.get? b = some o → h'.get? b = some o) → Q (.ref s.heap.objs.size) { s with heap := h', toks := tk }) :
    wpAny (model P w) A (call (.type "set") [.ref l]) Q E s := by
  have hisz : items.size = ks.length := by
    have q := strs_len hit
    rw [Array.length_toList] at q
    exact q
  obtain ⟨c, tl, hmro⟩ := F.called_set.mro
  have hmade := F.called_set.made
  have hsub := F.called_set.sub
  refine wpAny_call (codeAny_of_tree ?_)
  show wpAny _ _ (callAny (.type "set") _) _ _ _
  refine wpAny_pure ⟨Code.quiet_builtin _ (by decide +kernel), codeAny_builtin F.entry_type_call ?_⟩
  rw [Around.under_plain (weight_type_call_type "set" [.ref l] []) rfl]
  have h1 := F.called_set.notType
  have h2 := F.called_set.canCreate
  have hct := F.typeCall_set_1 (.ref l)
  repeat (any_goals (first | assumption | wp_step))

  refine codeAny_mono (code_set_led1 (.ref l) (E := E) (Q₁ := fun obj s₁ => obj = .ref s.heap.objs.size ∧ s₁ = { s with heap := s.heap.push { cls := .type "set", dict := none, data := .set #[] 0 (.fresh 0 0 (!w.params.followText "set-order")) } }) ⟨rfl, rfl⟩) fun r s₁ hr => ?_
  cases r with
  | error e => exact hr
  | ok fl =>
    cases fl with
    | ret obj =>
      obtain ⟨rfl, rfl⟩ := hr
      have hS : (s.heap.push { cls := .type "set", dict := none, data := .set #[] 0 (.fresh 0 0 (!w.params.followText "set-order")) }).get? s.heap.objs.size = some { cls := .type "set", dict := none, data := .set #[] 0 (.fresh 0 0 (!w.params.followText "set-order")) } := Heap.get?_push_size _ rfl
      have hT : Shared.TypeIs { s with heap := s.heap.push { cls := .type "set", dict := none, data := .set #[] 0 (.fresh 0 0 (!w.params.followText "set-order")) } } (.ref s.heap.objs.size) "set" := ⟨_, hS, rfl⟩
      have hli := F.called_set.init.lookup
      have hbi := F.called_set.init.bind (.ref s.heap.objs.size)
      repeat (any_goals (first | assumption | wp_step))

      refine codeAny_mono (codeAny_call_builtin (R := wants (fun r s₂ => r = .none ∧ ∃ h' tk, s₂ = { s with heap := h', toks := tk } ∧ SetTx P w h' s.heap.objs.size (allIns ks) ∧
          (∀ b o, s.heap.get? b = some o → h'.get? b = some o)) E) F.called_set.init.plain F.entry_set_init (check_set_init_1 hT ?_)) fun r₂ s₂ hr₂ => ?_
      · obtain ⟨ol, hol, hcl, nl, hdl⟩ := hl
        obtain ⟨ocls, odict, odata, oslots⟩ := ol
        simp only at hcl hdl
        subst hcl; subst hdl
        have hol' : (s.heap.push { cls := .type "set", dict := none, data := .set #[] 0 (.fresh 0 0 (!w.params.followText "set-order")) }).get? l = some { cls := .type "list", dict := odict, data := .seq items nl, slots := oslots } := Heap.get?_push_of_some _ hol
        have hsls := F.sub_list_set
        have hslf := F.sub_list_frozenset
        have hne : (Value.type "list" == Value.type "dict") = false := by decide
        have hl1 : (s.heap.push { cls := .type "set", dict := none, data := .set #[] 0 (.fresh 0 0 (!w.params.followText "set-order")) }).IsList l items := ⟨_, hol', rfl, nl, rfl⟩
        unfold Builtin.«set.__init__» noKeywords Builtin.Frozenset.updateFrom
        generalize hPI : pyIter = PI
        wp_walk
        subst hPI

        refine wpAny_pyIter_list hl1 ?_
        refine wpAny_bind (wpAny_runValue ?_)
        have hlS : l < s.heap.objs.size := Heap.lt_size hol
        have hh3 : A.in1.in1.in1.handled = none := by simp [hh]
        have hz1 : (s.heap.push { cls := .type "set", dict := none, data := .set #[] 0 (.fresh 0 0 (!w.params.followText "set-order")) }).objs.size = s.heap.objs.size + 1 := Heap.size_push ..
        have hneI : l ≠ (s.heap.push { cls := .type "set", dict := none, data := .set #[] 0 (.fresh 0 0 (!w.params.followText "set-order")) }).objs.size := by
          rw [Heap.size_push]; exact Nat.ne_of_lt (Nat.lt_succ_of_lt hlS)
        have hSf : s.heap.objs.size ∉ [(s.heap.push { cls := .type "set", dict := none, data := .set #[] 0 (.fresh 0 0 (!w.params.followText "set-order")) }).objs.size, l] := by
          rw [Heap.size_push]; simp only [List.mem_cons, List.mem_singleton, List.not_mem_nil, or_false, not_or]
          exact ⟨Nat.ne_of_lt (Nat.lt_succ_self _), Nat.ne_of_gt hlS⟩
        have hval : ∀ (i : Nat) (v : Value), items[i]? = some v → ∃ k u, ks[i]? = some k ∧ v = .str k u := fun i v hv => strs_at hit (by rw [Array.getElem?_toList]; exact hv)
        have none_of : ∀ b, s.heap.objs.size ≤ b → s.heap.get? b = none := fun b hb => by
          cases q : s.heap.get? b with
          | none => rfl
          | some o => exact absurd (Nat.lt_of_lt_of_le (Heap.lt_size q) hb) (Nat.lt_irrefl _)
        refine set_update_txt ((Walks.list hh3 _ l hneI items).toS) s.heap.objs.size
          hSf ks hisz hfew hval s.heap (none_of _ (Nat.le_refl _)) (fun b hb => none_of b (by
            rw [List.mem_singleton.mp hb, Heap.size_push]
            exact Nat.le_succ _)) (items.size - 0) 0 _ (by omega) (Nat.zero_le _)
          ⟨⟨_, Heap.get?_push_size _ rfl, rfl, rfl⟩, (hl1.push _)⟩ (fun b o e => Heap.get?_push_of_some _ (Heap.get?_push_of_some _ e)) ?hS0 ?hR
        case hS0 => exact fresh_tx.at fun o e => Heap.get?_push_of_some _ e
        case hR =>
          intro s' hm hS' hkp
          obtain ⟨h', g2, d', tk', os'⟩ := s'
          have eg : g2 = s.gens := hm.gens
          have ed : d' = s.drawn := hm.drawn
          have eo : os' = s.os := hm.os
          subst eg; subst ed; subst eo
          show wpAny _ _ _ _ _ _
          refine wpAny_pure ?_
          show wpAny _ _ (ret Value.none) _ _ _
          exact wpAny_pure ⟨rfl, h', tk', rfl, hS', hkp⟩

      · cases r₂ with
        | error e => exact hr₂
        | ok fl₂ =>
          cases fl₂ with
          | ret r =>
            obtain ⟨rfl, h', tk, rfl, hS', hk'⟩ := hr₂
            repeat (any_goals (first | assumption | wp_step))
            exact h _ _ hS' hk'
          | _ => exact hr₂.elim
    | _ => exact hr.elim

end
end Tx

/-! K16 -/
/-! ### the law's names -/
namespace Tx
open PySem PySem.Spec PyProof.Rows L2
section
variable {X : Cx}
/-- set of a list of texts -/
def rSetTx (K : PySem.W.Frag) (P : Program) (w : World) : List V → Hp → VK → Prop := fun vs H Q => ∃ (a : Addr) (l : List Str), vs = [.ref a] ∧ SqL K H a (l.map V.str) ∧ l.length < 4000 ∧ ∀ D, H D = none → Q (.ref D) (upd H D (SetTO P w D (allIns l)))
theorem cr_setTx {K : PySem.W.Frag} (hK : X.K = K) (calm : X.calm = true) : CallR X (.type "set") (rSetTx K X.prog X.w) := by
  subst hK
  intro pins s σ H vs us Q I r want
  obtain ⟨a, l, e, at_, few, q⟩ := want
  subst e
  rw [Vals.ref1 r]
  obtain ⟨its, r2, pl, hz⟩ := I.list at_
  refine call_set_txt l (I.ok.hd calm) pl.isList (by simpa using strs_of_vals r2) few fun h' tk R k => ?_
  have np : H s.heap.objs.size = none := I.hok.fresh (Nat.le_refl _)
  exact ⟨.ref s.heap.objs.size, _, I.laid k (Nat.le_refl _) (setTO_new R), rfl, q _ np⟩
end
theorem mem_ins {k x : Str} {l : List Str} : x ∈ ins k l ↔ x = k ∨ x ∈ l := by
  unfold ins
  split
  · next h =>
    refine ⟨.inr, fun z => ?_⟩
    rcases z with rfl | z
    · exact h
    · exact z
  · exact List.mem_cons
theorem nodup_ins {k : Str} {l : List Str} (h : l.Nodup) : (ins k l).Nodup := by
  unfold ins
  split
  · exact h
  · next n => exact List.nodup_cons.mpr ⟨n, h⟩
theorem mem_all (ks : List Str) : ∀ x, x ∈ allIns ks ↔ x ∈ ks := by
  have z : ∀ (ks l : List Str) (x : Str), x ∈ ks.foldl (fun l k => ins k l) l ↔ x ∈ l ∨ x ∈ ks := by
    intro ks
    induction ks with
    | nil => intro l x; simp
    | cons k ks ih =>
      intro l x
      rw [List.foldl_cons, ih, mem_ins, List.mem_cons]
      constructor
      · rintro ((h | h) | h)
        · exact .inr (.inl h)
        · exact .inl h
        · exact .inr (.inr h)
      · rintro (h | h | h)
        · exact .inl (.inr h)
        · exact .inl (.inl h)
        · exact .inr h
  intro x
  rw [show allIns ks = ks.foldl (fun l k => ins k l) [] from rfl, z]
  simp
end Tx
namespace Tr
open PySem PySem.Spec PyProof.Rows L2 Rw
/-- the names of the words' items, as they stand -/
def nmsL (ws : List Str) (ds : List D) : List Str := (ds.filter fun d => decide (wD d ∈ ws)).map nmI
theorem namesF_all (ws : List Str) (ds : List D) : namesF ws ds = Tx.allIns (nmsL ws ds) := by
  have z : ∀ (ds : List D) (l : List Str), ds.foldl (fun l d => if wD d ∈ ws then Tx.ins (nmI d) l else l) l = (nmsL ws ds).foldl (fun l k => Tx.ins k l) l := by
    intro ds
    induction ds with
    | nil => intro l; rfl
    | cons d ds ih =>
      intro l
      rw [List.foldl_cons, ih]
      unfold nmsL
      by_cases h : wD d ∈ ws
      · rw [if_pos h, List.filter_cons_of_pos (p := fun d => decide (wD d ∈ ws)) (decide_eq_true h), List.map_cons, List.foldl_cons]
      · rw [if_neg h, List.filter_cons_of_neg (p := fun d => decide (wD d ∈ ws)) (by rw [decide_eq_false h]; exact Bool.false_ne_true)]
  exact z ds []
theorem nmsL_len (ws : List Str) (ds : List D) : (nmsL ws ds).length ≤ ds.length := by
  unfold nmsL
  rw [List.length_map]
  exact List.length_filter_le ..
theorem nmsL_snoc (ws : List Str) (ds : List D) (d : D) : nmsL ws (ds ++ [d]) = nmsL ws ds ++ (if wD d ∈ ws then [nmI d] else []) := by
  unfold nmsL
  rw [List.filter_append, List.map_append]
  by_cases h : wD d ∈ ws
  · rw [if_pos h, List.filter_cons_of_pos (p := fun d => decide (wD d ∈ ws)) (decide_eq_true h)]
    rfl
  · rw [if_neg h, List.filter_cons_of_neg (p := fun d => decide (wD d ∈ ws)) (by rw [decide_eq_false h]; exact Bool.false_ne_true)]
    rfl
def spLn (K : PySem.W.Frag) (n : Nat) : Sp := fun vs H Q _ => ∃ (H0 : Hp) (p q : Addr) (xs : List V) (ds : List D) (ws : List Str), vs = [.ref p, .ref q] ∧ Same H0 H ∧ SqT K H p xs ∧ DpAll K H0 xs ds ∧ Fits n ds ∧ (∀ d ∈ flat ds, BrOk d ∧ PcOk d) ∧ (flat ds).length ≤ 800 ∧
  (∀ H', Same H H' → SqL K H' q (ws.map V.str)) ∧ (∀ d ∈ fwp ds, NmOk ws d) ∧ (fwp ds).length < 64 ∧
  ∀ H' l ys, Same H H' → H l = none → H' l = some (.lst (ys.map V.str)) → ys.Perm (namesF ws (fwp ds)) → sortedS ys = true → Q (.ref l) H'
section
variable {P : Program} {w : World} {K : PySem.W.Frag} {mg : Str → Option Value} {base : Heap}
abbrev sLn : Stmt := top 52
theorem scLn : FnScope ["_law_items", "_law_words", "_law_item"] ["_law_items", "_law_words"] (defScope sLn) := ⟨rfl, rfl, rfl, by decide +kernel, rfl, by decide +kernel, by decide +kernel⟩
theorem ok_ln {f fE : Addr} {fd fdE : FuncData} (F : Fun K "_law_names_in" "_law_names_in" sLn f fd) (n : Nat) (GE : FnOk P w K mg base CX0 (n + 2) fE fdE ["_law_items"] (spEv K n)) (TE : Called K mg "_law_every" ["_law_items"] fE fdE) (m_sorted : mg "sorted" = none) (m_set : mg "set" = none) : FnOk P w K mg base CX0 (n + 3) f fd ["_law_items", "_law_words"] (spLn K n) := by
  refine F.ok scLn (fun vs H Q E h => ?_) (fun cdv A outer s H vs Q E hr h => ?_)
  · obtain ⟨H0, p, q, xs, ds, ws, rfl, _⟩ := h
    rfl
  · obtain ⟨H0, p, qa, xs, ds, ws, rfl, s0, hp, ha, ft, br, hz, hw, nm, l64, q⟩ := h
    refine ⟨_, (pss_one (ps_ret (pe_callB (Tx.cr_sortTx rfl) (by rfl) m_sorted (by decide +kernel) (pa_cons (pe_callTy (Tx.cr_setTx (K := K) rfl rfl) (by rfl) m_set (by decide +kernel) (pa_cons (pe_lc (own := [("_law_item", 2)]) (g := gName 2)  (by rfl) scLn.nd (pi_list (pe_call GE (hr.mono (by first | decide | omega)) rfl TE.1 TE.2.1 TE.2.2 .nil pass0 (pa_cons (pv 0) pa_nil))) (blkOk_by (own := [("_law_item", 2)]) (N := ["_law_items", "_law_words", "_law_item"]) (sc := defScope sLn) (by decide +kernel)) (fun _ _ _ _ _ => (pg_name (i := 2) scLn.nd rfl (Or.inl rfl))) (fun _ _ _ _ _ => (pts_one (pt_cmpR (op_in_seqKK (K := K) rfl) (pe_ix (ix_tupK (K := K) rfl) (pv 2) pe_int (fun _ _ => rfl)) (pv 1) (by rfl)))) (fun _ _ _ _ _ => (pe_ix (ix_tupK (K := K) rfl) (pv 2) pe_int (fun _ _ => rfl)))) pa_nil)) pa_nil)))), ?_⟩
    refine ⟨_, rfl, H0, p, xs, ds, rfl, s0, hp, ha, ft, br, hz, fun H2 l2 ys s2 n2 h2 hy => ?_⟩
    have ly := dpl hy
    refine ⟨l2, rfl, ⟨_, SqL.of h2⟩, fun D nD => lc_list (K := K) (a := l2) (xs := ys)
      (fun i H' => Same H2 H' ∧ H' D = some (.lst ((nmsL ws ((fwp ds).take i)).map V.str))) ⟨same_upd nD, upd_same⟩ (fun i H' _ h => SqL.of (h.1 _ _ h2)) ?_ ?_⟩
    · rintro i x H' hx ⟨s1, hD⟩
      obtain ⟨d, hd, hx⟩ := dp_get hy hx
      have mem : d ∈ fwp ds := List.mem_of_getElem? hd
      have lt : i < (fwp ds).length := (List.getElem?_eq_some_iff.mp hd).1
      obtain ⟨w', r, rfl, hn⟩ := nm d mem
      have sH := s2.trans s1
      have s0H := s0.trans sH
      cases id hx with
      | @tup px xr _ hpx hax =>
      cases hax with
      | @cons x0 xr _ _ h0 hax =>
      cases h0
      have hpx := s0H.tupS hpx
      have nxt := nmsL_snoc ws ((fwp ds).take i) (.tuple (.str w' :: r))
      rw [← take_snoc hd] at nxt
      have ew : wD (.tuple (.str w' :: r)) = w' := rfl
      rw [ew] at nxt
      refine ⟨rfl, ?_⟩
      refine ⟨_, rfl, px, _, _, _, rfl, rfl, hpx, at0, _, rfl, qa, _, rfl, .inl (hw _ sH), rfl, flat_txt _, _, rfl, ?_⟩
      rw [inV_txt]
      by_cases hkz : w' ∈ ws
      · rw [decide_eq_true hkz]
        rw [if_pos hkz] at nxt
        obtain ⟨nn, r', rfl⟩ := hn hkz
        cases hax with
        | @cons x1 xr2 _ _ h1 hax =>
        cases h1
        refine iteT ⟨_, rfl, px, _, 1, .str nn, rfl, rfl, hpx, at1, _, hD, ?_, same_updN nD s1, ?_⟩
        · have l1 := nmsL_len ws ((fwp ds).take i)
          rw [List.length_take] at l1
          rw [List.length_map, sizeLine_eq]
          omega
        · rw [upd_same, nxt, List.map_append]
          rfl
      · rw [decide_eq_false hkz]
        rw [if_neg hkz, List.append_nil] at nxt
        exact iteF ⟨s1, by rw [hD, nxt]⟩
    · rintro H' ⟨s1, hD⟩
      rw [ly, List.take_length] at hD
      have l1 := nmsL_len ws (fwp ds)
      refine ⟨D, _, rfl, SqL.of hD, by omega, fun S nS => ?_⟩
      have sS := same_upd (o := Tx.SetTO P w S (Tx.allIns (nmsL ws (fwp ds)))) nS
      have l2 := Tx.allIns_len (nmsL ws (fwp ds))
      refine ⟨S, _, rfl, upd_same, by omega, fun ys' p' pm so np' => ?_⟩
      rw [← namesF_all] at pm
      exact q _ p' ys' (((s2.trans s1).trans sS).trans (same_upd np')) (((s2.trans s1).trans sS).free np') upd_same pm so
end
end Tr

/-! K17 -/
/-! ### defs that ask a class's name first -/
namespace Nm
open PySem PySem.Spec PyProof.Rows L2
section
variable {X : Cx} {C : Addr} {n : Str} {pins : List (Addr × Obj)} {σ : LSt} {H : Hp} {s : Shared} {k : Nat} {f : Addr} {fd : FuncData} {ps : List Str} {sp : Sp} {Q : VK} {E : XK}
/-- x == y by an own __eq__, of two of the class -/
theorem cmpBack_ref {u : Value} {s' : Shared} {Q : Value → Shared → Prop} (h : Q u s') (nn : u ≠ .notImplemented) : PySem.W.CmpBack Q u s' := by
  cases u <;> first | exact h | exact (nn rfl).elim
theorem rel_nni {v : V} {u : Value} (r : RelV v u) : u ≠ .notImplemented := by
  rintro rfl
  cases v <;> first | (obtain ⟨_, e⟩ := r; cases e; done) | (cases r; done)
/-- x == y by an own __eq__ -/
def rEqOwn (K : PySem.W.Frag) (C : Addr) (sp : Sp) (E : XK) : R2 := fun x y H Q => ∃ (a dx : Addr) (fs : List (Str × V)) (T : Value), x = .ref a ∧ H a = some (.ins C dx fs) ∧ TyX K H y T ∧ PySem.W.notFirst K C T = true ∧ sp [.ref a, y] H Q E
theorem op_eqOwn {CX : CXT} {K : PySem.W.Frag} (hK : X.K = K) (hs : PySem.W.findIn K (.ref C) "__eq__" = some (some (.ref f))) (hf : PySem.W.isFn K (.ref f) = true) (F : FnOk X.prog X.w K X.mg X.base CX k f fd ps sp) (hr : Room k X.A) (hb : Binds K fd ps []) (hx : Passes CX X E) : OpR X (compareOp .Eq) (rEqOwn K C sp E) := by
  subst hK
  intro pins s σ H x y v u Q I rx ry h
  obtain ⟨a, dx, fs, T, rfl, ha, ty, hn, q⟩ := h
  obtain rfl : v = Value.ref a := rx
  obtain ⟨P, Z, pz, hne⟩ := kit_of I ry ty
  obtain ⟨mA, J, _⟩ := ins_get I.hok ha
  obtain ⟨od, J, _⟩ := J.look
  obtain ⟨m, hF⟩ := I.fr
  have un : X.A.units < cLine := by have := hr.un; omega
  show wpAny _ _ (richCompare .Eq _ _) _ _ _
  refine PySem.W.cmp_K un hF I.ok.mod.kin J (Z.ty _ _ I.kIn pz) hn hs hf (thn (run_fn (us := [.ref a, u]) (vs := [.ref a, y]) F hr hb .nil hx I (.cons rfl (.cons ry .nil)) q) fun r s' z => ?_)
  obtain ⟨v', H', I', rv, qv⟩ := z
  exact cmpBack_ref ⟨v', H', I', rv, qv⟩ (rel_nni rv)
end
end Nm

/-! ### the name of an own class -/
namespace Nm
section
open PySem PySem.W PySem.Calls PyProof.Rows Builtin Builtin.ObjectAttr Builtin.Getset_descriptor
variable {prog : Program} {w : World} {A : Around} {E : Value → Shared → Prop} {s : Shared} {K : Frag} {R : Result → Shared → Prop} {C : Addr} {n : Str} {o : Obj} {cd : ClassData}
theorem name_kept {tp x : Value} (ho : s.heap.get? C = some o) (hc : o.cls = .type "type") (hs : (o.slots[2]?).join = some x)
    (h : R (.ok (.ret x)) s) :
    codeAny (model prog w) A (.call (.builtin "getset_descriptor.__get__") ⟨[.builtin "type.__name__", .ref C, tp], []⟩) R s := by
  obtain ⟨hh, g, dr, t, os⟩ := s
  have L0 : Looks (model prog w) hh (typeOf (.ref C)) (.type "type") := by
    have := (Looks.ld (M := model prog w) (part := none) ho).andThen (f := fun o => pure o.cls) .now
    rw [hc] at this
    exact this
  have L1 : Looks (model prog w) hh (isSubtype (.type "type") (.type "type")) true := Looks.of_pure (by rw [isSubtype_type]; kernel_rfl)
  refine codeAny_call_builtin KF.slot_gs.plain KF.entry_gs (KF.slot_gs.check _ _ _ _ _ _ _ _ ktyn_type (KF.args_gs _ _ _) ?_)
  unfold Builtin.«getset_descriptor.__get__» descrGet
  rw [dga_obj]
  refine wpAny_bind (wpAny_pure ?_)
  unfold descrGetter descrCheckInstance descrNameAndClass isInstance
  simp only [ktyn_owner]
  repeat lk
  refine ⟨Code.quiet_builtin _ (by decide +kernel), codeAny_builtin ktyn_entry ?_⟩
  unfold Builtin.«type.__name__»
  dsimp only
  unfold keptObject
  dsimp only
  unfold slotAt
  refine wpAny_bind (wpAny_bind (wpAny_loadPart (o := o) ho (wpAny_pure ?_)))
  rw [hs]
  exact wpAny_pure h
end
end Nm
/-! ### what is known of a class whose name is asked -/
namespace Nm
open PySem PySem.Spec PyProof.Rows L2
abbrev LSt := L2.St
/-- what is known of the class at C, whose name is n -/
structure NmC (K : PySem.W.Frag) (C : Addr) (n : Str) : Prop where
  rd : PySem.W.readsIn K C (.type "type") = true
  at_ : PySem.W.findCls K (.ref C) (.type "type") "__name__" = some (.get (.builtin "getset_descriptor.__get__") (.builtin "type.__name__") (.ref C) (.type "type"))
  ob : ∃ (o : Obj) (cd : ClassData), K.lookup C = some o ∧ o.cls = .type "type" ∧ o.data = .cls cd ∧ Str.ofString cd.name.toString = n
  pg : PySem.W.plainGet K C "__class__" = true
  hd : PySem.W.hasDictIn K C = true
  ha : PySem.W.findIn K (.ref C) "__class__" = some (some (.builtin "object.__class__"))
  hn : PySem.W.specialIn K (.builtin "object.__class__") "__get__" = some (some (.builtin "getset_descriptor.__get__"))
  ht : PySem.W.takesIn K (.builtin "object.__class__") = some true
  hm : PySem.W.mroIn K C (.type "object") = some true
  sz : n.length ≤ sizeLine
def Kept (K : PySem.W.Frag) (C : Addr) (v : Value) : Prop := ∀ o, K.lookup C = some o → (o.slots[2]?).join = some v
end Nm

namespace Tr
open PySem PySem.Spec PyProof.Rows L2 Rw
/-- a class by its name -/
structure TCls (K : PySem.W.Frag) (C : Addr) (n : Str) : Prop where
  c : Nm.NmC K C n
  k : ∃ tk : Tok, Nm.Kept K C (.str n tk)
/-- e.__class__.__name__ -/
def tClsNm (K : PySem.W.Frag) (ta : TE) : TE := fun σ H Q => ta σ H fun x H1 => ∃ (a C dx : Addr) (fs : List (Str × V)) (n : Str), x = .ref a ∧ H1 a = some (.ins C dx fs) ∧ TCls K C n ∧ Q (.str n) H1
theorem pe_clsnm {X : Cx} {K : PySem.W.Frag} {e : Expr} {ta : TE} {p1 p2 : Pos} (hK : X.K = K) (he : PE X e ta) (hb1 : attributeBase e "__class__" X.env (eval e X.env) = eval e X.env)
    (hb2 : attributeBase (.Attribute e "__class__" p1) "__name__" X.env (eval (.Attribute e "__class__" p1) X.env) = eval (.Attribute e "__class__" p1) X.env) : PE X (.Attribute (.Attribute e "__class__" p1) "__name__" p2) (tClsNm K ta) := by
  subst hK
  refine ⟨fun pins s σ H Q I h => ?_⟩
  refine attr_of hb2 (attr_of hb1 (thn (he.run pins s σ H _ I h) fun u s1 ⟨x, H1, I1, rx, a, C, dx, fs, n, ex, ea, T, q⟩ => ?_))
  subst ex
  obtain rfl : u = Value.ref a := rx
  obtain ⟨c, tk, f⟩ := T
  obtain ⟨mA, J, _⟩ := ins_get I1.hok ea
  obtain ⟨od, J, _⟩ := J.look
  obtain ⟨m, hF⟩ := I1.fr
  refine PySem.W.get_class hF I1.ok.mod.kin J c.pg c.hd c.ha c.hn c.ht c.hm ?_
  have I2 := I1.tok (s1.toks + 1)
  obtain ⟨o, cd, h1, h3, h4, h5⟩ := c.ob
  have ho := I2.kIn _ _ h1
  refine PySem.W.cls_bind I2.kIn c.rd c.at_ (wpAny_call (Nm.name_kept (o := o) ho h3 (f _ h1) (PySem.W.handed_on rfl ?_)))
  exact ⟨.str n, H1, I2.tok _, ⟨_, rfl⟩, q⟩
theorem dec_strV (a b : Str) : decide (V.str a = V.str b) = decide (a = b) := by
  by_cases e : a = b
  · rw [decide_eq_true e, decide_eq_true (congrArg V.str e)]
  · rw [decide_eq_false e, decide_eq_false fun z => e (V.str.inj z)]
def spAlG (K : PySem.W.Frag) : Sp := fun vs H Q _ => ∃ (a b C C' dx dy : Addr) (fs gs : List (Str × V)) (n n' : Str), vs = [.ref a, .ref b] ∧ H a = some (.ins C dx fs) ∧ TCls K C n ∧ H b = some (.ins C' dy gs) ∧ TCls K C' n' ∧ Q (.bl (decide (n = n'))) H
section
variable {P : Program} {w : World} {K : PySem.W.Frag} {mg : Str → Option Value} {base : Heap}
abbrev sAl : Stmt := top 35
theorem scAl : FnScope ["one", "other"] ["one", "other"] (defScope sAl) := ⟨rfl, rfl, rfl, by decide +kernel, rfl, by decide +kernel, by decide +kernel⟩
theorem ok_al {f : Addr} {fd : FuncData} (F : Fun K "are_alike" "are_alike" sAl f fd) : FnOk P w K mg base CX0 1 f fd ["one", "other"] (spAlG K) := by
  refine F.ok scAl (fun vs H Q E h => ?_) (fun cdv A outer s H vs Q E hr h => ?_)
  · obtain ⟨a, b, C, C', dx, dy, fs, gs, n, n', rfl, _⟩ := h
    rfl
  · obtain ⟨a, b, C, C', dx, dy, fs, gs, n, n', rfl, h1, T1, h2, T2, q⟩ := h
    refine ⟨_, (pss_one (ps_ret (pe_cmpR op_eq (pe_clsnm rfl (pv 0) rfl rfl) (pe_clsnm rfl (pv 1) rfl rfl) (nomark _)))), ?_⟩
    refine ⟨_, rfl, a, C, dx, fs, n, rfl, h1, T1, ?_⟩
    refine ⟨_, rfl, b, C', dy, gs, n', rfl, h2, T2, rfl, ?_⟩
    rw [dec_strV]
    exact q
theorem IsBody.ins {K : PySem.W.Frag} {C : Addr} {H : Hp} {a : Addr} {v : V} {ds : List D} (h : IsBody K C H a v ds) : ∃ dx fs, H a = some (.ins C dx fs) := by
  obtain ⟨dx, l1, l2, l3, ys, zs, us, h0, _⟩ := h
  exact ⟨_, _, h0⟩
theorem IsBody.ty {K : PySem.W.Frag} {C : Addr} {H : Hp} {a : Addr} {v : V} {ds : List D} {n : Str} (h : IsBody K C H a v ds) (cl : Cls K C) (c : TCls K C n) : TyX K H (.ref a) (.ref C) := by
  obtain ⟨dx, fs, h0⟩ := h.ins
  exact .base (.ins h0 cl c.c.ha c.c.hn c.c.ht c.c.hm)
def spEqB (K : PySem.W.Frag) (C : Addr) (n : Nat) : Sp := fun vs H Q _ => ∃ (a : Addr) (y : V) (v : V) (ds : List D), vs = [.ref a, y] ∧ IsBody K C H a v ds ∧ Fits n ds ∧
  ((∃ T, TyX K H y T ∧ PySem.W.kitOne K T (.ref C) = some false ∧ Q (.bl false) H) ∨
   (∃ (b : Addr) (v' : V) (ds' : List D), y = .ref b ∧ IsBody K C H b v' ds' ∧ Fits n ds' ∧ Q (.bl (PyData.eqv (.tuple ds) (.tuple ds'))) H))
abbrev sEB : Stmt := inClass (top 38) 4
theorem scEB : FnScope ["self", "other"] ["self", "other"] (defScope sEB) := ⟨rfl, rfl, rfl, by decide +kernel, rfl, by decide +kernel, by decide +kernel⟩
theorem ok_EB {f fL C : Addr} {fd fdL : FuncData} {nW : Str} (F : Fun K "__eq__" "Body.__eq__" sEB f fd) (n : Nat) (hn : n ≤ 40) (cl : Cls K C) (n1 : NoAttr K C "_code") (cc : TCls K C nW) (kw : PySem.W.kitOne K (.ref C) (.ref C) = some true) (gB : mg "Body" = some (.ref C))
    (GL : FnOk P w K mg base CX0 1 fL fdL ["one", "other"] (spAlG K)) (TL : Called K mg "are_alike" ["one", "other"] fL fdL) (m_isinstance : mg "isinstance" = none) : FnOk P w K mg base CX0 2 f fd ["self", "other"] (spEqB K C n) := by
  refine F.ok scEB (fun vs H Q E h => ?_) (fun cdv A outer s H vs Q E hr h => ?_)
  · obtain ⟨a, y, v, ds, rfl, _⟩ := h
    rfl
  · obtain ⟨a, y, v, ds, rfl, ha, ft, h⟩ := h
    refine ⟨_, (pss_one (ps_ret (pe_and (pe_callB (call_isiKK (K := K) rfl) (by rfl) m_isinstance (by decide +kernel) (pa_cons (pv 1) (pa_cons (pe_glob (v := .ref C) rfl gB rfl) pa_nil))) (pe_and (pe_call GL (hr.mono (by first | decide | omega)) rfl TL.1 TL.2.1 TL.2.2 .nil pass0 (pa_cons (pv 0) (pa_cons (pv 1) pa_nil))) (pe_one (pe_cmpR (Nm.op_eqDK (K := K) rfl hr.units) (pe_fld (pv 0) rfl) (pe_fld (pv 1) rfl) (nomark _))))))), ?_⟩
    rcases h with ⟨T, ty, kt, q⟩ | ⟨b, v', ds', rfl, hb, ft', q⟩
    · refine ⟨_, rfl, _, _, _, _, _, rfl, .own _, ty, kt, _, rfl, ?_⟩
      exact iteF q
    · refine ⟨_, rfl, _, _, _, _, _, rfl, .own _, hb.ty cl cc, kw, _, rfl, ?_⟩
      refine iteT ?_
      obtain ⟨dx, l1, l2, l3, ys, zs, us, h0, h1, _⟩ := ha
      obtain ⟨dy, g1, g2, g3, ys', zs', us', e0, e1, _⟩ := hb
      refine ⟨_, rfl, _, rfl, a, b, C, C, dx, dy, _, _, _, _, rfl, h0, cc, e0, cc, _, rfl, ?_⟩
      rw [decide_eq_true rfl]
      refine iteT ?_
      exact ⟨_, rfl, a, C, dx, _, _, rfl, h0, cl, n1, rfl, _, rfl, b, C, dy, _, _, rfl, e0, cl, n1, rfl, _, _, h1, e1, fits_sh ft hn, fits_sh ft' hn, q⟩
end
end Tr

/-! G1 -/
/-! ### generators that sleep while their consumer does what it likes -/
namespace L2
open PySem PySem.Spec PyProof.Rows GenW

/-- how far it is: how many items are out, the consumer's list as it stands -/
abbrev Gh := Nat × Option Obj
/-- a sleep: what stands at Ts may change, what is tracked may grow -/
structure Slp (P : Program) (w : World) (fs Ts : List Addr) (H H' : Hp) (s z : Shared) : Prop where
  os : z.os = s.os
  bare : AllBare z.gens
  un : Un fs Ts H H' s.heap z.heap
  hok : HOk P w H' z.heap
  more : ∀ b o, H b = some o → H' b = some o
  ts : ∀ b ∈ Ts, H' b = none ∧ ∃ o, z.heap.get? b = some o ∧ ∀ v, o.data ≠ .cell v
/-- awake since s₀: what stands at Ts is as it was then -/
def GJ (X : Cx) (Ts : List Addr) (ip : List (Addr × Obj)) (σ : St) (H : Hp) (s₀ s : Shared) : Prop :=
  ∃ os : List (Addr × Obj), os.map Prod.fst = Ts ∧ (∀ p ∈ os, s₀.heap.get? p.1 = some p.2) ∧ Inv X (os ++ ip) σ H s

theorem pinsAt_fst {h : Heap} : ∀ {Ts : List Addr}, (∀ b ∈ Ts, ∃ o, h.get? b = some o) → (pinsAt Ts h).map Prod.fst = Ts
  | [], _ => rfl
  | b :: r, hb => by
    obtain ⟨o, e⟩ := hb b List.mem_cons_self
    have ih := pinsAt_fst (h := h) (Ts := r) fun c hc => hb c (List.mem_cons_of_mem _ hc)
    show (List.filterMap _ (b :: r)).map Prod.fst = _
    rw [List.filterMap_cons_some (b := (b, o)) (by rw [e]; rfl), List.map_cons]
    exact congrArg (b :: ·) ih
theorem fs_stack {X : Cx} (ok : X.Ok) : ∀ b ∈ X.fs, b ∈ frs X.stack := fun b hb => by
  rcases ok.stk with e | ⟨e, hf⟩
  · rw [e]; exact hb
  · rw [e]; unfold frs; rw [List.filterMap_cons, hf]; exact List.mem_cons_of_mem _ hb
section
variable {X : Cx} {Ts : List Addr} {ip : List (Addr × Obj)} {σ : St} {H H' : Hp} {s₀ s z : Shared}
theorem GJ.at (h : GJ X Ts ip σ H s₀ s) : ∀ b ∈ Ts, H b = none ∧ b ∉ X.fs ∧ b ≠ X.env.locals ∧ ∃ o, s₀.heap.get? b = some o ∧ s.heap.get? b = some o := fun b hb => by
  obtain ⟨os, e, e0, I⟩ := h
  rw [← e] at hb
  obtain ⟨p, hp, rfl⟩ := List.mem_map.mp hb
  obtain ⟨h1, h2, h3, h4, _⟩ := I.pin p (List.mem_append_right _ (List.mem_append_left _ hp))
  exact ⟨h2, h4, h3, p.2, e0 p hp, h1⟩
theorem GJ.inv (h : GJ X Ts ip σ H s₀ s) : Inv X ip σ H s := by
  obtain ⟨os, _, _, I⟩ := h
  exact I.pins_of fun p hp => I.pin p (List.mem_append_right _ (List.mem_append_right _ hp))
/-- woken -/
theorem GJ.woken (hp : ∀ p ∈ X.pn ++ ip, p.1 ∉ Ts) (hA : ∀ S ∈ Ts, Apart X S) (h : GJ X Ts ip σ H s₀ s) (q : Slp X.prog X.w X.fs Ts H H' s z) : GJ X Ts ip σ H' z z := by
  have I0 := h.inv
  have I1 : Inv X ip σ H' z := I0.call' (ch := Ts) q.os (q.un.mono (fun b hb => fs_stack I0.ok b hb) fun _ z => z) q.hok q.bare fun b hb =>
    ⟨.inr (hA b hb).1, (hA b hb).2.1, (hA b hb).2.2, fun p hpp e => hp p hpp (e ▸ hb)⟩
  refine ⟨pinsAt Ts z.heap, pinsAt_fst fun b hb => let ⟨_, o, e, _⟩ := q.ts b hb; ⟨o, e⟩, fun p hpp => (of_pinsAt hpp).2, I1.pins_of fun p hpp => ?_⟩
  rcases List.mem_append.mp hpp with hpp | hpp
  · obtain ⟨hb, e⟩ := of_pinsAt hpp
    obtain ⟨h1, o, e1, h2⟩ := q.ts p.1 hb
    rw [e] at e1; cases e1
    obtain ⟨_, h3, h4, _⟩ := h.at p.1 hb
    exact ⟨e, h1, h4, h3, h2⟩
  · exact I1.pin p (List.mem_append_right _ hpp)
end

/-- what the consumer wants: its list's place, what stands still at a run, what it hands over at each waking, what it wants of each item -/
structure Wsh where
  D : Addr
  Ts : List Addr
  Cw : Gh → Hp → Prop
  Yw : Gh → V → Hp → Prop
def GYs (X : Cx) (W : Wsh) : Protocol := fun n s₀ v s kap =>
  ∃ g x ip σ H, n + 1 + g.1 = sizeLine ∧ g.2 = s₀.heap.get? W.D ∧ RelV x v ∧ GJ X W.Ts ip σ H s₀ s ∧ W.Yw g x H ∧
    ∀ H' z, Slp X.prog X.w X.fs W.Ts H H' s z → W.Cw (g.1 + 1, z.heap.get? W.D) H' → kap (.send .none) z
structure GE where
  nx : Gh → St → Hp → Prop
  rt : Gh → VK
  bk : Gh → St → Hp → Prop := fun _ _ _ => False
  ct : Gh → St → Hp → Prop := fun _ _ _ => False
abbrev TGg := GE → Gh → St → Hp → Prop
def GE.at (D : GE) (g : Gh) : Ends := { nx := D.nx g, rt := D.rt g, bk := D.bk g, ct := D.ct g }
def GPs (X : Cx) (W : Wsh) (ip : List (Addr × Obj)) (D : GE) (g : Gh) (s₀ : Shared) (f : Flow) (s : Shared) : Prop :=
  match f with
  | .next => ∃ σ H, GJ X W.Ts ip σ H s₀ s ∧ D.nx g σ H
  | .brk => ∃ σ H, GJ X W.Ts ip σ H s₀ s ∧ D.bk g σ H
  | .cont => ∃ σ H, GJ X W.Ts ip σ H s₀ s ∧ D.ct g σ H
  | .ret u => ∃ v σ H, GJ X W.Ts ip σ H s₀ s ∧ RelV v u ∧ D.rt g v H
structure GCs (X : Cx) (W : Wsh) (ip : List (Addr × Obj)) (A : Around) (c : Code) (fs : List Frame) (gd : Bool → Bool) : Prop where
  pn : ∀ p ∈ X.pn ++ ip, p.1 ∉ W.Ts
  apart : ∀ S ∈ W.Ts, Apart X S
  over : A.over c fs = X.A
  split : splitAtGen fs = none
  guard : fs.any Frame.guarded = false
  gd : gd false = false
structure GKs (X : Cx) (W : Wsh) (ip : List (Addr × Obj)) (A : Around) (R : GenEnd) (c : Code) (fs : List Frame) (K : Flow → Sem PySem.Fin) (J : Value → Sem PySem.Fin) (D : GE) : Prop where
  ok : ∀ (n : Nat) (g : Gh) (s₀ s : Shared) (f : Flow), n + g.1 = sizeLine → g.2 = s₀.heap.get? W.D → GPs X W ip D g s₀ f s → Seg (model X.prog X.w) A R (GYs X W) n s₀ c (K f) fs s
  exc : ∀ (n : Nat) (s₀ : Shared) (e : Value) (s : Shared), X.xe e s → Seg (model X.prog X.w) A R (GYs X W) n s₀ c (J e) fs s
structure GT (X : Cx) (W : Wsh) (st : Stmt) (t : TGg) : Prop where
  run : ∀ (A : Around) (ip : List (Addr × Obj)) (R : GenEnd) (n : Nat) (g : Gh) (s₀ : Shared) (c : Code) (fs : List Frame) (K : Flow → Sem PySem.Fin) (J : Value → Sem PySem.Fin) (gd : Bool → Bool) (lv : List Value → List Value) (s : Shared) (σ : St) (H : Hp) (D : GE),
    GCs X W ip A c fs gd → n + g.1 = sizeLine → g.2 = s₀.heap.get? W.D → GKs X W ip A R c fs K J D → GJ X W.Ts ip σ H s₀ s → t D g σ H →
    Seg (model X.prog X.w) A R (GYs X W) n s₀ c ((exec st X.env).wrap K J gd lv) fs s
structure GTs (X : Cx) (W : Wsh) (st : List Stmt) (t : TGg) : Prop where
  run : ∀ (A : Around) (ip : List (Addr × Obj)) (R : GenEnd) (n : Nat) (g : Gh) (s₀ : Shared) (c : Code) (fs : List Frame) (K : Flow → Sem PySem.Fin) (J : Value → Sem PySem.Fin) (gd : Bool → Bool) (lv : List Value → List Value) (s : Shared) (σ : St) (H : Hp) (D : GE),
    GCs X W ip A c fs gd → n + g.1 = sizeLine → g.2 = s₀.heap.get? W.D → GKs X W ip A R c fs K J D → GJ X W.Ts ip σ H s₀ s → t D g σ H →
    Seg (model X.prog X.w) A R (GYs X W) n s₀ c ((execs st X.env).wrap K J gd lv) fs s

section
variable {X : Cx} {W : Wsh} {st : Stmt} {rest : List Stmt}
theorem sp_gps {ip os : List (Addr × Obj)} {D : GE} {g : Gh} {s₀ s : Shared} {f : Flow} (e : os.map Prod.fst = W.Ts) (e0 : ∀ p ∈ os, s₀.heap.get? p.1 = some p.2) (h : SP X (os ++ ip) (D.at g) f s) : GPs X W ip D g s₀ f s := by
  cases f with
  | next => obtain ⟨σ, H, I, q⟩ := h; exact ⟨σ, H, ⟨os, e, e0, I⟩, q⟩
  | brk => obtain ⟨σ, H, I, q⟩ := h; exact ⟨σ, H, ⟨os, e, e0, I⟩, q⟩
  | cont => obtain ⟨σ, H, I, q⟩ := h; exact ⟨σ, H, ⟨os, e, e0, I⟩, q⟩
  | ret u => obtain ⟨v, σ, H, I, r, q⟩ := h; exact ⟨v, σ, H, ⟨os, e, e0, I⟩, r, q⟩
def tGp (t : TS) : TGg := fun D g σ H => t (D.at g) σ H
/-- a statement that hands out nothing -/
theorem gt_ps {t : TS} (h : PS X st t) : GT X W st (tGp t) := by
  refine ⟨fun A ip R n g s₀ c fs K J gd lv s σ H D cc hn hg k hJ ht => ?_⟩
  obtain ⟨os, e, e0, I⟩ := hJ
  refine seg_wrap ?_
  rw [cc.over]
  exact wpAny_mono (h.run _ s σ H (D.at g) I ht) (fun f s' hs => k.ok n g s₀ s' f hn hg (sp_gps e e0 hs)) fun x s' hx => k.exc n s₀ x s' hx
theorem gts_pss {t : TS} (h : PSs X rest t) : GTs X W rest (tGp t) := by
  refine ⟨fun A ip R n g s₀ c fs K J gd lv s σ H D cc hn hg k hJ ht => ?_⟩
  obtain ⟨os, e, e0, I⟩ := hJ
  refine seg_wrap ?_
  rw [cc.over]
  exact wpAny_mono (h.run _ s σ H (D.at g) I ht) (fun f s' hs => k.ok n g s₀ s' f hn hg (sp_gps e e0 hs)) fun x s' hx => k.exc n s₀ x s' hx
def tGnil : TGg := fun D g σ H => D.nx g σ H
theorem gts_nil : GTs X W [] tGnil := by
  refine ⟨fun A ip R n g s₀ c fs K J gd lv s σ H D cc hn hg k hJ ht => ?_⟩
  exact seg_execs_nil (k.ok n g s₀ s .next hn hg ⟨σ, H, hJ, ht⟩)
def tGcons (t u : TGg) : TGg := fun D g σ H => t { D with nx := fun g' σ' H' => u D g' σ' H' } g σ H
theorem gts_cons {t u : TGg} (a : GT X W st t) (b : GTs X W rest u) : GTs X W (st :: rest) (tGcons t u) := by
  refine ⟨fun A ip R n g s₀ c fs K J gd lv s σ H D cc hn hg k hJ ht => ?_⟩
  refine seg_execs_cons ?_
  refine a.run A ip R n g s₀ c fs _ J gd lv s σ H { D with nx := fun g' σ' H' => u D g' σ' H' } cc hn hg ⟨fun n' g' s₀' s' f hn' hg' hs => ?_, k.exc⟩ hJ ht
  cases f with
  | next =>
    obtain ⟨σ', H', J', q⟩ := hs
    exact b.run A ip R n' g' s₀' c fs K J gd lv s' σ' H' D cc hn' hg' k J' q
  | brk => exact k.ok n' g' s₀' s' .brk hn' hg' hs
  | cont => exact k.ok n' g' s₀' s' .cont hn' hg' hs
  | ret u => exact k.ok n' g' s₀' s' (.ret u) hn' hg' hs
theorem gts_one {t : TGg} (a : GT X W st t) : GTs X W [st] (tGcons t tGnil) := gts_cons a gts_nil
def tGif (tc : TT) (t u : TGg) : TGg := fun D g σ H => tc σ H fun b H1 => if b = true then t D g σ H1 else u D g σ H1
theorem gt_if {test : Expr} {body orelse : List Stmt} {pos : Pos} {tc : TT} {t u : TGg} (hc : PT X test tc) (a : GTs X W body t) (b : GTs X W orelse u) : GT X W (.If test body orelse pos) (tGif tc t u) := by
  refine ⟨fun A ip R n g s₀ c fs K J gd lv s σ H D cc hn hg k hJ ht => ?_⟩
  obtain ⟨os, e, e0, I⟩ := hJ
  show Seg _ _ _ _ n s₀ c (.at pos fun _ => ((isTrue test X.env (eval test X.env)) >>= fun r => if r = true then execs body X.env else execs orelse X.env).wrap K J gd lv) fs s
  refine seg_at (seg_bind_wrap ?_)
  rw [cc.over]
  refine wpAny_mono (hc.run _ s σ H _ I ht) (fun r s' hr => ?_) fun x s' hx => k.exc n s₀ x s' hx
  obtain ⟨H1, I1, q⟩ := hr
  cases r with
  | true =>
    rw [if_pos rfl] at q ⊢
    exact a.run A ip R n g s₀ c fs K J gd lv s' σ H1 D cc hn hg k ⟨os, e, e0, I1⟩ q
  | false =>
    rw [if_neg Bool.false_ne_true] at q ⊢
    exact b.run A ip R n g s₀ c fs K J gd lv s' σ H1 D cc hn hg k ⟨os, e, e0, I1⟩ q

/-! ### yield -/
def tGy (W : Wsh) (te : TE) : TGg := fun D g σ H => g.1 < sizeLine ∧ te σ H fun x H1 => W.Yw g x H1 ∧ ∀ g' H', g'.1 = g.1 + 1 → (∀ b o, H1 b = some o → H' b = some o) → W.Cw g' H' → D.nx g' σ H'
theorem gt_yield {e : Expr} {yp pos : Pos} {te : TE} (he : PE X e te) (hco : X.env.scope.isCoroutine = false := by rfl) (hi : interactive X.env = false := by rfl) : GT X W (.Expr (.Yield (some e) yp) pos) (tGy W te) := by
  refine ⟨fun A ip R n g s₀ c fs K J gd lv s σ H D cc hn hg k hJ ht => ?_⟩
  obtain ⟨hlt, ht⟩ := ht
  obtain ⟨m, rfl⟩ : ∃ m, n = m + 1 := ⟨n - 1, by omega⟩
  obtain ⟨os, e1, e0, I⟩ := hJ
  refine seg_Expr_Yield cc.split cc.gd cc.guard ?_ hco hi
  rw [cc.over]
  refine wpAny_mono (he.run _ s σ H _ I ht) (fun v s' hv => ?_) fun x s' hx => k.exc _ s₀ x s' hx
  obtain ⟨x, H1, I1, rv, qy, qn⟩ := hv
  have J1 : GJ X W.Ts ip σ H1 s₀ s' := ⟨os, e1, e0, I1⟩
  intro kap hk
  refine ⟨g, x, ip, σ, H1, hn, hg, rv, J1, qy, fun H' z q hC => hk .none z ?_⟩
  exact k.ok m (g.1 + 1, z.heap.get? W.D) z z .next (by show m + (g.1 + 1) = _; omega) rfl ⟨σ, H', J1.woken cc.pn cc.apart q, qn _ H' rfl q.more hC⟩
end
end L2

/-! G2 -/
/-! ### loops of a generator -/
namespace L2
open PySem PySem.Spec PyProof.Rows GenW
section
variable {M : Model} {A : Around} {R : GenEnd} {Y : Protocol} {n : Nat} {s₀ s : Shared} {c : Code} {fs : List Frame} {env : Env} {K : Flow → Sem PySem.Fin} {J : Value → Sem PySem.Fin} {gd : Bool → Bool} {lv : List Value → List Value}
theorem seg_runOwn {c' : Code} (h : ∀ p, Seg M A R Y n s₀ c' (M.den c') (.ret (fun r => ((match r with | .ok f => (.pure f : Sem Flow) | .error e => .raise e).onRaise (cameBack env)).wrap K J gd lv) none (gd false) (lv []) c p [] :: fs) s) :
    Seg M A R Y n s₀ c ((runOwn c' env).wrap K J gd lv) fs s := seg_call h
end
section
variable {prog : Program} {w : World} {A : Around} {R : GenEnd} {Y : Protocol} {n : Nat} {s₀ s : Shared} {fs : List Frame} {env : Env}
theorem onRaise_noted {m : Sem PySem.Fin} {env : Env} : (m.onRaise fun x => do noteFrame x env; theTreesLotGoes x) = m.wrap .pure (fun e => (do noteFrame e env; theTreesLotGoes e : Sem Unit).wrap (fun _ => .raise e) .raise id id) id id := by
  rw [Sem.onRaise_eq_wrap]
  refine Sem.wrap_congr _ _ _ (fun _ => rfl) fun e => ?_
  exact Sem.bind_eq_wrap _ _
/-- one turn of a for loop's code -/
theorem seg_forTurn {target : Expr} {it : Value} {body : List Stmt}
    (h : wpAny (model prog w) (A.over (.forLoop target it body [] env) fs) (pyNext it) (fun r s1 => match r with
        | none => Seg (model prog w) A R Y n s₀ (.forLoop target it body [] env) (.pure (.again (.block [] env))) fs s1
        | some v => wpAny (model prog w) (A.over (.forLoop target it body [] env) fs) (letOwnedTupleGo target it v) (fun _ s2 => wpAny (model prog w) (A.over (.forLoop target it body [] env) fs) (assign target env v) (fun _ s3 =>
            Seg (model prog w) A R Y n s₀ (.forLoop target it body [] env) ((execs body env).wrap (fun f => match f with
              | .next | .cont => .pure (.again (.forLoop target it body [] env))
              | .brk => .pure (.done .next)
              | .ret v => .pure (.done (.ret v))) (fun e => (do noteFrame e env; theTreesLotGoes e : Sem Unit).wrap (fun _ => .raise e) .raise id id) id id) fs s3)
            (fun x s' => Seg (model prog w) A R Y n s₀ (.forLoop target it body [] env) ((do noteFrame x env; theTreesLotGoes x : Sem Unit).wrap (fun _ => .raise x) .raise id id) fs s') s2)
            (fun x s' => Seg (model prog w) A R Y n s₀ (.forLoop target it body [] env) ((do noteFrame x env; theTreesLotGoes x : Sem Unit).wrap (fun _ => .raise x) .raise id id) fs s') s1)
      (fun x s' => Seg (model prog w) A R Y n s₀ (.forLoop target it body [] env) ((do noteFrame x env; theTreesLotGoes x : Sem Unit).wrap (fun _ => .raise x) .raise id id) fs s') s) :
    Seg (model prog w) A R Y n s₀ (.forLoop target it body [] env) ((model prog w).den (.forLoop target it body [] env)) fs s := by
  show Seg _ A R Y n s₀ _ ((forTurn target it body [] env).onRaise fun x => do noteFrame x env; theTreesLotGoes x) fs s
  rw [onRaise_noted]
  simp only [forTurn]
  refine seg_bind_wrap (wpAny_standAt (seg_bind_wrap (wpAny_onRaise (wpAny_mono h (fun r s1 h1 => ?_) fun x s' hx => wpAny_standAt hx))))
  cases r with
  | none => exact h1
  | some v =>
    refine seg_bind_wrap (wpAny_mono h1 (fun _ s2 h2 => ?_) fun _ _ hx => hx)
    refine seg_bind_wrap (wpAny_mono h2 (fun _ s3 h3 => ?_) fun _ _ hx => hx)
    rw [Sem.bind_eq_wrap', Sem.wrap_wrap]
    refine Eq.mp (congrArg (fun t => Seg (model prog w) A R Y n s₀ (.forLoop target it body [] env) t fs s3) (Sem.wrap_congr _ _ _ (fun f => ?_) fun e => rfl)) h3
    cases f <;> rfl
end

section
variable {X : Cx} {W : Wsh}
theorem gcs_loop {ip : List (Addr × Obj)} {A : Around} {c c' : Code} {fs : List Frame} {gd : Bool → Bool} {k : Result → Sem PySem.Fin} {l kp : List Value} {p : Pos} (g : GCs X W ip A c fs gd) (hw : c'.weight = 0) (hu : c'.cUnits = 0) :
    GCs X W ip A c' (.ret k none (gd false) l c p kp :: fs) id where
  pn := g.pn
  apart := g.apart
  over := (over_loop hw hu).trans g.over
  split := by show (splitAtGen fs).map _ = none; rw [g.split]; rfl
  guard := by show (gd false || fs.any Frame.guarded) = false; rw [g.gd, g.guard]; rfl
  gd := rfl
theorem gcs_code {ip : List (Addr × Obj)} {A : Around} {c c' : Code} {fs : List Frame} {gd : Bool → Bool} (g : GCs X W ip A c fs gd) (h : A.over c' fs = X.A) : GCs X W ip A c' fs id := ⟨g.pn, g.apart, h, g.split, g.guard, rfl⟩
theorem seg_back {ip : List (Addr × Obj)} {A : Around} {R : GenEnd} {c : Code} {fs : List Frame} {K : Flow → Sem PySem.Fin} {J : Value → Sem PySem.Fin} {gd : Bool → Bool} {lv : List Value → List Value} {D : GE} {n : Nat} {s₀ s : Shared} {e : Value}
    (g : GCs X W ip A c fs gd) (k : GKs X W ip A R c fs K J D) (h : cameBackBy (model X.prog X.w) X.A X.env X.xe e s) :
    Seg (model X.prog X.w) A R (GYs X W) n s₀ c (((Sem.raise e : Sem Flow).onRaise (cameBack X.env)).wrap K J gd lv) fs s := by
  show Seg _ _ _ _ _ _ _ (((cameBack X.env e).bind fun _ => (Sem.raise e : Sem Flow)).wrap K J gd lv) _ _
  rw [Sem.bind_eq_wrap, Sem.wrap_wrap]
  refine seg_wrap ?_
  rw [g.over]
  exact wpAny_mono h (fun _ s' hx => k.exc n s₀ e s' hx) fun x s' hx => k.exc n s₀ x s' hx

/-! ### for -/
def tGFr (wi : TI) (g : TG) (tb : TGg) : TGg := fun D gh σ H => wi σ H fun J H1 => ∃ W : Nat → Nat → Gh → St → Hp → Prop, (∃ m, W 0 m gh σ H1) ∧ ∀ i m gh σ H, W i m gh σ H →
  (J.stop i H ∧ D.nx gh σ H) ∨ (J.go i H ∧ ∃ N : Gh → St → Hp → Prop, (∀ gh' σ' H', N gh' σ' H' → ∃ m', m' < m ∧ W (i + 1) m' gh' σ' H') ∧
    ∀ x H', J.yld i H x H' → g x σ H' fun σ2 H2 => tb { D with nx := N, ct := N, bk := D.nx } gh σ2 H2)
theorem gt_for {tg iter : Expr} {body : List Stmt} {pos : Pos} {wi : TI} {g : TG} {tb : TGg} (hp : PassesOwn (model X.prog X.w) X.A X.env X.xe) (hc : X.calm = true) (hi : PI X tg iter wi) (hg : PG X tg g) (hb : GTs X W body tb)
    (hs : ∀ x, foldedSetIterable iter X.env x = pure x := by intro _; rfl) : GT X W (.For tg iter body [] pos) (tGFr wi g tb) := by
  refine ⟨fun A ip R n gh s₀ c fs K J gd lv s σ H D cc hn hgh k hJ ht => ?_⟩
  obtain ⟨os, eos, e0, I⟩ := hJ
  rw [exec_For]
  refine seg_bind_wrap (wpAny_standAt (seg_bind_wrap ?_))
  rw [cc.over]
  refine wpAny_mono (hi.run _ s σ H _ I ht) (fun v s1 h1 => ?_) fun x s' hx => k.exc n s₀ x s' hx
  refine seg_bind_wrap (wpAny_of_eq (hs v) (seg_bind_wrap (wpAny_standAt (seg_bind_wrap (wpAny_holding ?_)))))
  rw [cc.over]
  refine wpAny_mono h1 (fun itv s2 h2 => ?_) fun x s' hx => k.exc n s₀ x s' hx
  obtain ⟨it, fp, tn, J1, H2, e, I2, T, st2, f2, Wi, ⟨m0, w0⟩, turn⟩ := h2
  subst e
  have stat : ∀ {H' : Hp}, (∀ b ∈ fp, H' b = none) → ∀ b ∈ fp, FpOk X (os ++ ip) H' b := fun hn b hb => ⟨hn b hb, (f2 b hb).2⟩
  have fTs : ∀ b ∈ fp, b ∉ W.Ts := fun b hb hm => by
    rw [← eos] at hm
    obtain ⟨p, hp, e⟩ := List.mem_map.mp hm
    exact (f2 b hb).2.2.2.2.2 p (List.mem_append_right _ (List.mem_append_left _ hp)) e
  refine seg_runOwn fun p => ?_
  have gl := fun (kk : Result → Sem PySem.Fin) => gcs_loop (k := kk) (c' := .forLoop tg (.ref it) body [] X.env) (l := lv []) (kp := []) (p := p) cc rfl rfl
  have gb := fun (kk : Result → Sem PySem.Fin) => gcs_loop (k := kk) (c' := .block [] X.env) (l := lv []) (kp := []) (p := p) cc rfl rfl
  have ee : ∀ (c' : Code) (hw : A.over c' (.ret (fun r => ((match r with | .ok f => (.pure f : Sem Flow) | .error e => .raise e).onRaise (cameBack X.env)).wrap K J gd lv) none (gd false) (lv []) c p [] :: fs) = X.A) (n : Nat) (s₀ : Shared) (x : Value) (s' : Shared), X.xe x s' →
      Seg (model X.prog X.w) A R (GYs X W) n s₀ c' ((do noteFrame x X.env; theTreesLotGoes x : Sem Unit).wrap (fun _ => .raise x) .raise id id)
        (.ret (fun r => ((match r with | .ok f => (.pure f : Sem Flow) | .error e => .raise e).onRaise (cameBack X.env)).wrap K J gd lv) none (gd false) (lv []) c p [] :: fs) s' := fun c' hw n s₀ x s' hx => by
    refine seg_wrap ?_
    rw [hw]
    refine wpAny_bind (wpAny_mono (hp x s' hx) (fun _ s'' hcb => wpAny_theTreesLotGoes ?_) fun y s'' hcb => ?_)
    · exact seg_leaf (.error x) (seg_back cc k hcb)
    · exact seg_leaf (.error y) (seg_back cc k hcb)
  have loop : ∀ (m i n : Nat) (gh : Gh) (s₀ s : Shared) (σ : St) (H : Hp), n + gh.1 = sizeLine → gh.2 = s₀.heap.get? W.D → Wi i m gh σ H → GJ X W.Ts ip σ H s₀ s → tn i s.heap → (∀ b ∈ fp, H b = none) →
      Seg (model X.prog X.w) A R (GYs X W) n s₀ (.forLoop tg (.ref it) body [] X.env) ((model X.prog X.w).den (.forLoop tg (.ref it) body [] X.env))
        (.ret (fun r => ((match r with | .ok f => (.pure f : Sem Flow) | .error e => .raise e).onRaise (cameBack X.env)).wrap K J gd lv) none (gd false) (lv []) c p [] :: fs) s := by
    intro m
    induction m using Nat.strongRecOn with
    | ind m ih =>
      intro i n gh s₀ s σ H hn hgh w hJ st fr
      obtain ⟨os, eos, e0, I⟩ := hJ
      have fpo : ∀ {H' : Hp}, (∀ b ∈ fp, H' b = none) → ∀ b ∈ fp, FpOk X (os ++ ip) H' b := fun hn' b hb => by
        obtain ⟨_, z1, z2, z3, z4, z5⟩ := f2 b hb
        refine ⟨hn' b hb, z1, z2, z3, z4, fun q hq => ?_⟩
        rcases List.mem_append.mp hq with hq | hq
        · exact z5 q (List.mem_append_left _ hq)
        · rcases List.mem_append.mp hq with hq | hq
          · exact fun e => fTs b hb (by rw [← eos, ← e]; exact List.mem_map_of_mem hq)
          · exact z5 q (List.mem_append_right _ (List.mem_append_right _ hq))
      refine seg_forTurn ?_
      rw [(gl _).over]
      rcases turn i m gh σ H w with ⟨stop, qn⟩ | ⟨go, N, hN, step⟩
      · refine wpAny_mono (T.done X rfl rfl rfl hc i _ s σ H X.xe I (fpo fr) st stop) (fun r s4 hr4 => ?_) fun x s' hx => ee _ (gl _).over n s₀ x s' hx
        obtain ⟨hr, I4⟩ := hr4
        subst hr
        refine seg_again rfl ?_
        show Seg _ _ _ _ _ _ _ (((execs [] X.env).onRaise fun x => do noteFrame x X.env; theTreesLotGoes x) >>= fun f => pure (.done f)) _ _
        refine seg_bind (wpAny_onRaise (wpAny_execs_nil ?_))
        exact seg_leaf (.ok .next) (k.ok n gh s₀ s4 .next hn hgh ⟨σ, H, ⟨os, eos, e0, I4⟩, qn⟩)
      · refine wpAny_mono (T.item X rfl rfl rfl hc i _ s σ H X.xe I (fpo fr) st go) (fun r s4 hr4 => ?_) fun x s' hx => ee _ (gl _).over n s₀ x s' hx
        obtain ⟨u, hr, h4⟩ := hr4
        subst hr
        refine wpAny_mono h4 (fun _ s5 h5 => ?_) fun x s' hx => ee _ (gl _).over n s₀ x s' hx
        obtain ⟨x, H5, I5, r5, y5, st5, fr5⟩ := h5
        have I5' := I5.pinned (fpo fr5) (T.obj _ _ st5)
        have I5'' : Inv X (os ++ (ip ++ pinsAt fp s5.heap)) σ H5 s5 := by rw [← List.append_assoc]; exact I5'
        refine wpAny_mono (hg.run _ s5 σ H5 x u _ I5'' r5 (step x H5 y5)) (fun _ s6 h6 => ?_) fun x s' hx => ee _ (gl _).over n s₀ x s' hx
        obtain ⟨σ6, H6, I6, q6⟩ := h6
        have J6 : GJ X W.Ts (ip ++ pinsAt fp s5.heap) σ6 H6 s₀ s6 := ⟨os, eos, e0, I6⟩
        have cb := fun (kk : Result → Sem PySem.Fin) => (⟨fun q hq => by
          rcases List.mem_append.mp hq with hq | hq
          · exact cc.pn q (List.mem_append_left _ hq)
          · rcases List.mem_append.mp hq with hq | hq
            · exact cc.pn q (List.mem_append_right _ hq)
            · exact fTs _ (of_pinsAt hq).1, cc.apart, (gl kk).over, (gl kk).split, (gl kk).guard, rfl⟩ : GCs X W (ip ++ pinsAt fp s5.heap) A (.forLoop tg (.ref it) body [] X.env) (.ret kk none (gd false) (lv []) c p [] :: fs) id)
        have again : ∀ {n' : Nat} {gh' : Gh} {s₀' s7 : Shared} {σ7 : St} {H7 : Hp}, n' + gh'.1 = sizeLine → gh'.2 = s₀'.heap.get? W.D → GJ X W.Ts (ip ++ pinsAt fp s5.heap) σ7 H7 s₀' s7 → N gh' σ7 H7 →
            Seg (model X.prog X.w) A R (GYs X W) n' s₀' (.forLoop tg (.ref it) body [] X.env) (.pure (.again (.forLoop tg (.ref it) body [] X.env)))
              (.ret (fun r => ((match r with | .ok f => (.pure f : Sem Flow) | .error e => .raise e).onRaise (cameBack X.env)).wrap K J gd lv) none (gd false) (lv []) c p [] :: fs) s7 := fun {n' gh' s₀' s7 σ7 H7} hn' hgh' J7 n7 => by
          obtain ⟨m', hm, w7⟩ := hN gh' σ7 H7 n7
          obtain ⟨os7, eos7, e07, I7⟩ := J7
          have pin7 : ∀ b ∈ fp, ∀ o, s5.heap.get? b = some o → s7.heap.get? b = some o ∧ H7 b = none := fun b hb o e =>
            let z := I7.pin (b, o) (List.mem_append_right _ (List.mem_append_right _ (List.mem_append_right _ (mem_pinsAt hb e))))
            ⟨z.1, z.2.1⟩
          refine seg_again rfl (ih m' hm (i + 1) n' gh' s₀' s7 σ7 H7 hn' hgh' w7 ⟨os7, eos7, e07, I7.pins_of fun q hq => ?_⟩ (T.keep _ _ _ st5 fun b hb o e => (pin7 b hb o e).1) fun b hb => ?_)
          · rcases List.mem_append.mp hq with hq | hq
            · exact I7.pin q (List.mem_append_right _ (List.mem_append_left _ hq))
            · exact I7.pin q (List.mem_append_right _ (List.mem_append_right _ (List.mem_append_left _ hq)))
          · obtain ⟨o, e, _⟩ := T.obj _ _ st5 b hb
            exact (pin7 b hb o e).2
        have drop : ∀ {s₀' s7 : Shared} {σ7 : St} {H7 : Hp}, GJ X W.Ts (ip ++ pinsAt fp s5.heap) σ7 H7 s₀' s7 → GJ X W.Ts ip σ7 H7 s₀' s7 := fun {s₀' s7 σ7 H7} J7 => by
          obtain ⟨os7, eos7, e07, I7⟩ := J7
          refine ⟨os7, eos7, e07, I7.pins_of fun q hq => ?_⟩
          rcases List.mem_append.mp hq with hq | hq
          · exact I7.pin q (List.mem_append_right _ (List.mem_append_left _ hq))
          · exact I7.pin q (List.mem_append_right _ (List.mem_append_right _ (List.mem_append_left _ hq)))
        refine hb.run A (ip ++ pinsAt fp s5.heap) R n gh s₀ _ _ _ _ id id s6 σ6 H6 { D with nx := N, ct := N, bk := D.nx } (cb _) hn hgh ⟨fun n' gh' s₀' s7 f hn' hgh' hs7 => ?_, fun n' s₀' x s7 hx => ee _ (gl _).over n' s₀' x s7 hx⟩ J6 q6
        cases f with
        | next => obtain ⟨σ7, H7, J7, n7⟩ := hs7; exact again hn' hgh' J7 n7
        | cont => obtain ⟨σ7, H7, J7, n7⟩ := hs7; exact again hn' hgh' J7 n7
        | brk => obtain ⟨σ7, H7, J7, q7⟩ := hs7; exact seg_leaf (.ok .next) (k.ok n' gh' s₀' s7 .next hn' hgh' ⟨σ7, H7, drop J7, q7⟩)
        | ret v => obtain ⟨x7, σ7, H7, J7, r7, q7⟩ := hs7; exact seg_leaf (.ok (.ret v)) (k.ok n' gh' s₀' s7 (.ret v) hn' hgh' ⟨x7, σ7, H7, drop J7, r7, q7⟩)
  exact loop m0 0 n gh s₀ s2 σ H2 hn hgh w0 ⟨os, eos, e0, I2⟩ st2 fun b hb => (f2 b hb).1
end
end L2

/-! G3 -/
/-! ### yield from a list -/
namespace L2
open PySem PySem.Spec PyProof.Rows GenW
section
variable {prog : Program} {w : World} {A : Around} {E : Value → Shared → Prop} {s : Shared}
theorem special_list_item {it t : Addr} {i : Nat} {items : Array Value} {x : Value} {Q : Option Value → Shared → Prop} (hit : s.heap.IsListIter it t i) (ht : s.heap.IsList t items) (hx : items[i]? = some x)
    (hQ : ∀ h', Heap.IsListIter h' it t (i + 1) → Heap.SameBut it s.heap h' → Q (some x) { s with heap := h' }) : wpAny (model prog w) A (callSpecial? (.ref it) "__next__") Q E s := by
  obtain ⟨o, ho, hc, hd⟩ := id hit
  obtain ⟨ol, hol, _, nl, hdl⟩ := ht
  refine wpAny_callSpecial?_slot (name := Str.ofString "__next__") hit.typeIs slot_listiter_next (wpAny_call_entry slot_listiter_next hit.typeIs entry_listiter_next ?_ (args_listiter_next _))
  show wpAny _ _ (field (.ref it) 0 >>= _) _ _ s
  refine wpAny_bind (wpAny_field ho hd (x := .ref t) rfl ?_)
  show wpAny _ _ (if (Value.ref t == Value.none) = true then _ else _) _ _ s
  rw [if_neg (show ¬ ((Value.ref t == Value.none) = true) from Bool.false_ne_true)]
  show wpAny _ _ (field (.ref it) 1 >>= _) _ _ s
  refine wpAny_bind (wpAny_field ho hd (x := .int i 0) rfl ?_)
  show wpAny _ _ (seqItems? (.ref t) >>= _) _ _ s
  refine wpAny_bind (wpAny_seqItems hol hdl ?_)
  simp only [Int.toNat_natCast, hx]
  refine wpAny_bind (wpAny_setField ho hd (by simp) (wpAny_pure ⟨x, rfl, hQ _ ?_ (Heap.SameBut.update ..)⟩))
  exact ⟨_, Heap.get?_update_self _ ho (Obj.isFreed_of_fields (Obj.data_mapFields hd _)), (Obj.cls_mapFields ..).trans hc, by
    rw [Obj.data_mapFields hd]; simp [rawInt]⟩
theorem special_list_end {it t : Addr} {i : Nat} {items : Array Value} {Q : Option Value → Shared → Prop} (hh : A.handled = none) (hit : s.heap.IsListIter it t i) (ht : s.heap.IsList t items) (hx : items[i]? = none)
    (hE : ∀ e h', StopX e h' → Heap.ExtBut it s.heap h' → E e { s with heap := h' }) : wpAny (model prog w) A (callSpecial? (.ref it) "__next__") Q E s := by
  obtain ⟨o, ho, hc, hd⟩ := id hit
  obtain ⟨ol, hol, _, nl, hdl⟩ := ht
  refine wpAny_callSpecial?_slot (name := Str.ofString "__next__") hit.typeIs slot_listiter_next (wpAny_call_entry slot_listiter_next hit.typeIs entry_listiter_next ?_ (args_listiter_next _))
  show wpAny _ _ (field (.ref it) 0 >>= _) _ _ s
  refine wpAny_bind (wpAny_field ho hd (x := .ref t) rfl ?_)
  show wpAny _ _ (if (Value.ref t == Value.none) = true then _ else _) _ _ s
  rw [if_neg (show ¬ ((Value.ref t == Value.none) = true) from Bool.false_ne_true)]
  show wpAny _ _ (field (.ref it) 1 >>= _) _ _ s
  refine wpAny_bind (wpAny_field ho hd (x := .int i 0) rfl ?_)
  show wpAny _ _ (seqItems? (.ref t) >>= _) _ _ s
  refine wpAny_bind (wpAny_seqItems hol hdl ?_)
  simp only [Int.toNat_natCast, hx]
  refine wpAny_bind (wpAny_rule (wpAny_bind (wpAny_setField ho hd (by simp) ?_)))
  show wpAny _ _ (newExc (.type "StopIteration") [] >>= _) _ _ _
  refine wpAny_bind ?_
  simp only [newExc, newTuple]
  refine wpAny_bind (wpAny_newObj_type ?_ (by size_fits))
  refine wpAny_bind (m := firstArgMember _ _) (wpAny_of_eq (a := Value.none) (by first | rfl | (simp only [firstArgMember]; rfl)) ?_)
  refine wpAny_newObj_type ?_ (by size_fits)
  simp only [raiseNew]
  refine wpAny_bind (wpAny_handled ?_)
  first | rw [show A.in1.handled = none from hh] | rw [hh]
  refine wpAny_bind (wpAny_pure (wpAny_throw ?_))
  refine hE _ _ ⟨_, _, _, rfl, Heap.get?_push_size _ rfl, rfl, rfl, ?_⟩ (((Heap.SameBut.update ..).extBut.push _).push _)
  first
    | rfl
    | (rw [Array.getElem?_append_left (by decide)]; rfl)
    | kernel_rfl
end
section
variable {X : Cx} {W : Wsh} {te : TE} {e : Expr}
theorem close_list : typeLookup (.type "list_iterator") "close" = pure none := by rw [typeLookup_type, builtinLookup_eq_fast]; kernel_rfl
/-- the items of the list that e gives are handed out: Pv by the item, how far it is, the heap -/
def tGyl (W : Wsh) (te : TE) : TGg := fun D g σ H => te σ H fun x H1 => ∃ a xs, x = .ref a ∧ H1 a = some (.lst xs) ∧ ∃ Pv : Nat → Gh → Hp → Prop, Pv 0 g H1 ∧
  (∀ j g H x, xs[j]? = some x → (∀ b o, H1 b = some o → H b = some o) → Pv j g H → g.1 < sizeLine ∧ W.Yw g x H ∧ ∀ g' H', g'.1 = g.1 + 1 → (∀ b o, H b = some o → H' b = some o) → W.Cw g' H' → Pv (j + 1) g' H') ∧
  ∀ g H, (∀ b o, H1 b = some o → H b = some o) → Pv xs.length g H → D.nx g σ H
abbrev yfCode (it : Addr) : Code := .builtin "proto.yield_from" ⟨[.ref it, .bool false, .none], []⟩
theorem seg_yl {ip : List (Addr × Obj)} {A : Around} {R : GenEnd} {fs : List Frame} {it a : Addr} {xs : List V} {σ : L2.St} {H1 : Hp} {Pv : Nat → Gh → Hp → Prop} (hp : ∀ p ∈ X.pn ++ ip, p.1 ∉ W.Ts) (hA : ∀ S ∈ W.Ts, Apart X S) (hpi : ∀ p ∈ X.pn ++ ip, p.1 ≠ it)
    (hex : it ∈ X.ex ∨ X.s_0.heap.objs.size ≤ it) (hL : it ≠ X.env.locals) (hcell : ∀ x c, X.env.cells.lookup x = some c → c ≠ it) (hTs : it ∉ W.Ts) (hfs : it ∉ X.fs) (h1 : H1 a = some (.lst xs))
    (ho : (A.over (yfCode it) fs).handled = none) (hsp : splitAtGen fs = none) (hgd : fs.any Frame.guarded = false)
    (step : ∀ j g H x, xs[j]? = some x → (∀ b o, H1 b = some o → H b = some o) → Pv j g H → g.1 < sizeLine ∧ W.Yw g x H ∧ ∀ g' H', g'.1 = g.1 + 1 → (∀ b o, H b = some o → H' b = some o) → W.Cw g' H' → Pv (j + 1) g' H')
    (hend : ∀ (n : Nat) (g : Gh) (s₀ s : Shared) (H : Hp), n + g.1 = sizeLine → g.2 = s₀.heap.get? W.D → GJ X W.Ts ip σ H s₀ s → (∀ b o, H1 b = some o → H b = some o) → Pv xs.length g H → Seg (model X.prog X.w) A R (GYs X W) n s₀ (yfCode it) (.pure (.done (.ret .none))) fs s) :
    ∀ (r j n : Nat) (g : Gh) (s₀ s : Shared) (H : Hp), j + r = xs.length → n + g.1 = sizeLine → g.2 = s₀.heap.get? W.D → GJ X W.Ts ip σ H s₀ s → s.heap.IsListIter it a j → H it = none → (∀ b o, H1 b = some o → H b = some o) → Pv j g H →
      Seg (model X.prog X.w) A R (GYs X W) n s₀ (yfCode it) ((model X.prog X.w).den (yfCode it)) fs s := by
  have turned : ∀ {s₀ s : Shared} {H : Hp} {h' : Heap}, GJ X W.Ts ip σ H s₀ s → H it = none → (∀ b o, b ≠ it → s.heap.get? b = some o → h'.get? b = some o) → GJ X W.Ts ip σ H s₀ { s with heap := h' } := fun {s₀ s H h'} hJ hn hk => by
    obtain ⟨os, e, e0, I⟩ := hJ
    refine ⟨os, e, e0, I.turned (t' := s.toks) (it := it) hk hn hL hex hcell fun p hpp => ?_⟩
    rcases List.mem_append.mp hpp with hq | hq
    · exact hpi p (List.mem_append_left _ hq)
    · rcases List.mem_append.mp hq with hq | hq
      · exact fun z => hTs (by rw [← e, ← z]; exact List.mem_map_of_mem hq)
      · exact hpi p (List.mem_append_right _ hq)
  intro r
  induction r with
  | zero =>
    intro j n g s₀ s H hj hn hg hJ hit hin hm hP
    obtain rfl : j = xs.length := by omega
    obtain ⟨_, its, m, rits, hl⟩ := hJ.inv.hok a _ (hm a _ h1)
    have hnone : its.toArray[xs.length]? = none := by
      have e2 : its[xs.length]? = none := List.getElem?_eq_none_iff.mpr (by have := rits.length; omega)
      simpa using e2
    rw [den_yf]
    unfold Builtin.«proto.yield_from»
    try dsimp only
    refine seg_bind (wpAny_pure ?_)
    try dsimp only
    refine seg_bind (wpAny_attempt (wpAny_holding ?_))
    rw [if_neg Bool.false_ne_true, if_pos (show (Value.none == Value.none) = true from rfl)]
    refine wpAny_bind (wpAny_rule (wpAny_bind ?_))
    refine special_list_end ho hit ⟨_, hl, rfl, m, rfl⟩ hnone fun e h' hS hk => ?_
    obtain ⟨ea, o, vs, rfl, hoa, hcls, hdat, h5⟩ := hS
    try dsimp only
    refine seg_bind (wpAny_endsTurn hoa hcls ?_)
    try dsimp only
    rw [if_pos rfl]
    first
      | refine seg_bind (wpAny_rule ?_)
      | (rw [if_neg Bool.false_ne_true]; refine seg_bind (wpAny_rule ?_))
      | (rw [if_neg Bool.false_ne_true]; refine seg_bind (wpAny_pure ?_); refine seg_bind (wpAny_rule ?_))
    refine seg_bind (wpAny_field hoa hdat h5 ?_)
    exact hend n g s₀ _ H hn hg (turned hJ hin fun b o hb eb => hk b o hb eb) hm hP
  | succ r ih =>
    intro j n g s₀ s H hj hn hg hJ hit hin hm hP
    obtain ⟨x, hx⟩ : ∃ x, xs[j]? = some x := ⟨xs[j]'(by omega), List.getElem?_eq_getElem _⟩
    obtain ⟨hlt, hY, hnx⟩ := step j g H x hx hm hP
    obtain ⟨n, rfl⟩ : ∃ m, n = m + 1 := ⟨n - 1, by omega⟩
    obtain ⟨_, its, m, rits, hl⟩ := hJ.inv.hok a _ (hm a _ h1)
    obtain ⟨u, hu, ru⟩ := rits.get hx
    rw [den_yf]
    unfold Builtin.«proto.yield_from»
    try dsimp only
    refine seg_bind (wpAny_pure ?_)
    try dsimp only
    refine seg_bind (wpAny_attempt (wpAny_holding ?_))
    rw [if_neg Bool.false_ne_true, if_pos (show (Value.none == Value.none) = true from rfl)]
    refine wpAny_bind (wpAny_rule (wpAny_bind ?_))
    refine special_list_item hit ⟨_, hl, rfl, m, rfl⟩ (x := u) (by simpa using hu) fun h' hit' hs => ?_
    have hJ' := turned hJ hin fun b o hb eb => hs.extBut b o hb eb
    obtain ⟨oi, hoi, hoc, hod⟩ := id hit'
    refine wpAny_pure ?_
    try dsimp only
    refine seg_bind (wpAny_typeOf (T := "list_iterator") ⟨oi, hoi, hoc⟩ ?_)
    try dsimp only
    first
      | (refine seg_bind (wpAny_of_eq close_list ?_); refine seg_bind (wpAny_pure ?_))
      | refine seg_bind (wpAny_bind (wpAny_of_eq close_list (wpAny_pure ?_)))
      | refine seg_bind (wpAny_of_eq close_list ?_)
    try dsimp only
    refine seg_bind (wpAny_sleptOver hoi hoc (by decide) ?_)
    refine seg_yield hsp rfl hgd ?_
    refine ⟨g, x, ip, σ, H, hn, hg, ru, hJ', hY, fun H' z q hC => ?_⟩
    have hz : z.heap.get? it = some oi := q.un.keep it oi hoi hin hfs hTs
    have hJz := hJ'.woken hp hA q
    show Seg _ _ _ _ n z _ (Builtin.Generator.sleptOver (.ref it) false >>= fun _ => _) fs z
    refine seg_bind (wpAny_sleptOver hz hoc (by decide) ?_)
    try dsimp only
    refine seg_bind (wpAny_pure ?_)
    exact seg_again (plainId_quiet plain_yf _) (ih (j + 1) n (g.1 + 1, z.heap.get? W.D) z z H' (by omega) (by show n + (g.1 + 1) = _; omega) rfl hJz ⟨oi, hz, hoc, hod⟩ (q.un.free it oi hoi hin hTs) (fun b o e => q.more b o (hm b o e)) (hnx _ H' rfl q.more hC))
theorem gt_yl {yp pos : Pos} (he : PE X e te) (hc : X.A.handled = none) (hi : interactive X.env = false := by rfl) : GT X W (.Expr (.YieldFrom e yp) pos) (tGyl W te) := by
  refine ⟨fun A ip R n g s₀ c fs K J gd lv s σ H D cc hn hg k hJ ht => ?_⟩
  rw [exec_Expr X.env _ pos hi rfl]
  show Seg _ _ _ _ n s₀ c (.at pos fun _ => ((eval e X.env >>= fun v => (standAt yp >>= fun _ => yieldFrom X.env v)) >>= fun x => dropValue (.YieldFrom e yp) pos x).wrap K J gd lv) fs s
  obtain ⟨os, eos, e0, I⟩ := hJ
  refine seg_at (segw_bind2 ?_)
  rw [cc.over]
  refine wpAny_mono (he.run _ s σ H _ I ht) (fun v s1 hv => ?_) fun x s' hx => k.exc n s₀ x s' hx
  obtain ⟨x, H1, I1, r1, a, xs, ex, ha, Pv, p0, step, fin⟩ := hv
  subst ex
  obtain rfl : v = Value.ref a := r1
  obtain ⟨_, its, m, rits, h1⟩ := I1.hok a _ ha
  have ht1 : s1.heap.IsList a its.toArray := ⟨_, h1, rfl, m, rfl⟩
  refine seg_at ?_
  show Seg _ _ _ _ n s₀ c ((yieldFrom X.env (.ref a)).wrap (fun b => (dropValue (.YieldFrom e yp) pos b).wrap K J gd lv) J gd lv) fs s1
  unfold yieldFrom
  refine seg_bind_wrap (wpAny_typeOf ht1.typeIs ?_)
  rw [if_neg (show ¬ ((Value.type "list" == Value.type "coroutine") = true) by decide)]
  refine seg_bind_wrap (wpAny_holding ?_)
  rw [cc.over]
  refine wpAny_pyIter_list ht1 ?_
  refine seg_call fun p => ?_
  have kp : ∀ b o, s1.heap.get? b = some o → (s1.heap.push { cls := .type "list_iterator", data := .fields #[.ref a, .int 0 0] }).get? b = some o := fun b o e => Heap.get?_push_of_some _ e
  have ksz : ∀ b o, s1.heap.get? b = some o → b ≠ s1.heap.objs.size := fun b o e => Nat.ne_of_lt (Heap.lt_size e)
  have J1 : GJ X W.Ts ip σ H1 s₀ { s1 with heap := s1.heap.push { cls := .type "list_iterator", data := .fields #[.ref a, .int 0 0] } } := ⟨os, eos, e0, I1.kept (t' := s1.toks) kp⟩
  refine seg_yl (it := s1.heap.objs.size) (xs := xs) (H1 := H1) (Pv := Pv) cc.pn cc.apart (fun p hp => ?_) (.inr I1.sz) (Nat.ne_of_gt I1.lt) (fun y c hy => ?_) (fun hm => ?_) (I1.nofs (Nat.le_refl _)) ha ?_ ?_ ?_ step (fun n' g' s₀' s' H' hn' hg' hG hm hP => ?_) xs.length 0 n g s₀ _ H1 (Nat.zero_add _) hn hg J1
    ⟨_, Heap.get?_push_size _ rfl, rfl, rfl⟩ (I1.hok.fresh (Nat.le_refl _)) (fun _ _ z => z) p0
  · rcases List.mem_append.mp hp with hp | hp
    · exact ksz p.1 _ (I1.pin p (List.mem_append_left _ hp)).1
    · exact ksz p.1 _ (I1.pin p (List.mem_append_right _ (List.mem_append_right _ hp))).1
  · obtain ⟨v, o, ho, _⟩ := I1.cell y c hy
    exact ksz c o ho
  · rw [← eos] at hm
    obtain ⟨p, hp, e⟩ := List.mem_map.mp hm
    exact ksz p.1 _ (I1.pin p (List.mem_append_right _ (List.mem_append_left _ hp))).1 e
  · show (A.over c fs).handled = none
    rw [cc.over]; exact hc
  · show (splitAtGen fs).map _ = none
    rw [cc.split]; rfl
  · show (gd false || fs.any Frame.guarded) = false
    rw [cc.gd, cc.guard]; rfl
  · exact seg_leaf (.ok (.ret .none)) (k.ok n' g' s₀' s' .next hn' hg' ⟨σ, H', hG, fin g' H' hm hP⟩)
end
end L2

/-! G4 -/
/-! ### a generator def's promise -/
namespace L2
open PySem PySem.Spec PyProof.Rows GenW

theorem execs_app (env : Env) (rest : List Stmt) : ∀ pre : List Stmt, execs (pre ++ rest) env = (execs pre env >>= fun f => match f with | .next => execs rest env | f => pure f)
  | [] => rfl
  | st :: r => by
    rw [List.cons_append, execs_cons, execs_cons, execs_app env rest r, bind_assoc]
    refine congrArg _ (funext fun f => ?_)
    cases f <;> rfl
theorem seg_app {M : Model} {A : Around} {R : GenEnd} {Y : Protocol} {n : Nat} {s₀ s : Shared} {c : Code} {fs : List Frame} {env : Env} {pre rest : List Stmt} {K : Flow → Sem PySem.Fin} {J : Value → Sem PySem.Fin} {gd : Bool → Bool} {lv : List Value → List Value}
    (h : wpAny M (A.over c fs) (execs pre env) (fun f s' => match f with | .next => Seg M A R Y n s₀ c ((execs rest env).wrap K J gd lv) fs s' | f => Seg M A R Y n s₀ c (K f) fs s') (fun x s' => Seg M A R Y n s₀ c (J x) fs s') s) :
    Seg M A R Y n s₀ c ((execs (pre ++ rest) env).wrap K J gd lv) fs s := by
  rw [execs_app]
  refine seg_bind_wrap (wpAny_mono h (fun f s' h' => ?_) fun _ _ x => x)
  cases f <;> exact h'

/-- arguments, heap, what is handed over at a waking, what is wanted of an item, of the end, of an exception -/
abbrev SpGs := List V → Hp → (Gh → Hp → Prop) → (Gh → V → Hp → Prop) → (Gh → Hp → Prop) → XK → Prop
section
variable (P : Program) (w : World) (outer : List Env) (H : Hp) (s : Shared) (a : Addr) (gi : Nat) (W : Wsh)
def GsEnd (s2 : Shared) (Q : Gh → Hp → Prop) (E : XK) : GenEnd := fun n s₀ r s1 =>
  ((r = .ok (.ret .none) ∨ r = .ok .next) ∧ ∃ g H', n + g.1 = sizeLine ∧ g.2 = s₀.heap.get? W.D ∧ s1.os = s.os ∧ AllBare s1.gens ∧ Un (frs outer) [] H H' s.heap s1.heap ∧ HOk P w H' s1.heap ∧ (∀ b ∈ W.Ts, H' b = none ∧ s1.heap.get? b = s₀.heap.get? b) ∧ Q g H') ∨
  ∃ e, r = .error e ∧ CX P w outer H s (fun cls d H' => E cls d H' ∧ ∀ b ∈ W.Ts, H' b = none) e s1 ∧ s1.heap.IsGen a gi ∧ ∀ b ∈ W.Ts, s1.heap.get? b = s2.heap.get? b
def GsItem : Protocol := fun n s₀ v s1 kap =>
  ∃ g x H', n + 1 + g.1 = sizeLine ∧ g.2 = s₀.heap.get? W.D ∧ RelV x v ∧ s1.os = s.os ∧ AllBare s1.gens ∧ s1.heap.NoLimit ∧ s1.heap.IsGen a gi ∧ (H' a = none ∧ a ∉ frs outer) ∧ Un (frs outer) [] H H' s.heap s1.heap ∧ HOk P w H' s1.heap ∧ (∀ b ∈ W.Ts, H' b = none ∧ s1.heap.get? b = s₀.heap.get? b) ∧ W.Yw g x H' ∧
    ∀ H'' z, Slp P w (frs outer) W.Ts H' H'' s1 z → W.Cw (g.1 + 1, z.heap.get? W.D) H'' → kap (.send .none) z
end
def GsMade (P : Program) (w : World) (k : Nat) (outer : List Env) (H : Hp) (s : Shared) (Cw : Gh → Hp → Prop) (Yw : Gh → V → Hp → Prop) (Q : Gh → Hp → Prop) (E : XK) (u : Value) (s' : Shared) : Prop :=
  ∃ (a : Addr) (gi : Nat) (c : Code), u = .ref a ∧ s.heap.objs.size ≤ a ∧ a < s'.heap.objs.size ∧ s'.heap.IsGen a gi ∧ s'.gens[gi]? = some (.fresh c) ∧ s'.os = s.os ∧ AllBare s'.gens ∧ s'.heap.NoLimit ∧ (∀ b o, s.heap.get? b = some o → s'.heap.get? b = some o) ∧
    ∀ (A : Around) (D : Addr) (Ts : List Addr) (s2 : Shared), Room k A → A.frames = some outer → (∀ S ∈ Ts, s'.heap.objs.size ≤ S ∧ ∃ o, s2.heap.get? S = some o ∧ ∀ v, o.data ≠ .cell v) → (∀ b o, s'.heap.get? b = some o → s2.heap.get? b = some o) → s2.os = s.os → AllBare s2.gens →
      Cw (0, s2.heap.get? D) H → Seg (model P w) A (GsEnd P w outer H s a gi ⟨D, Ts, Cw, Yw⟩ s2 Q E) (GsItem P w outer H s a gi ⟨D, Ts, Cw, Yw⟩) sizeLine s2 c ((model P w).den c) [] s2
structure GFns (P : Program) (w : World) (K : PySem.W.Frag) (mg : Str → Option Value) (base : Heap) (k : Nat) (f : Addr) (fd : FuncData) (ps : List Str) (sp : SpGs) : Prop where
  len : ∀ vs H Cw Yw Q E, sp vs H Cw Yw Q E → vs.length = ps.length
  run : ∀ (A : Around) (outer : List Env) (s : Shared) (H : Hp) (args : Args) (us : List Value) (vs : List V) (Cw : Gh → Hp → Prop) (Yw : Gh → V → Hp → Prop) (Q : Gh → Hp → Prop) (E : XK), Room k A → Env0 P w K mg base A outer s H → BindsTo s fd args (ps.zip us) → Vals vs us → sp vs H Cw Yw Q E →
    codeAny (model P w) A (.call (.ref f) args) (fun r s' => match r with | .ok (.ret u) => GsMade P w k outer H s Cw Yw Q E u s' | _ => False) s
abbrev noX : XK := fun _ _ _ => False
/-- what is pinned is untracked where an exception leaves -/
abbrev exE (E : XK) (pn : List (Addr × Obj)) : XK := fun cls d H' => E cls d H' ∧ ∀ p ∈ pn, H' p.1 = none
section
variable {P : Program} {w : World} {K : PySem.W.Frag} {mg : Str → Option Value} {base : Heap} {N : List Str} {qual : Str} {scope : Scope} {f : Addr} {cd : Value} {A : Around} {outer : List Env} {s s1 : Shared} {H H' : Hp} {E E' : XK} {pn pn' pins pins' : List (Addr × Obj)} {σ : L2.St}
/-- the context's wish and its pins changed -/
theorem reG (I : Inv (gcxOf P w K mg base N qual scope f cd A outer s H E pn) pins σ H' s1)
    (h : ∀ p ∈ pn' ++ pins', s1.heap.get? p.1 = some p.2 ∧ H' p.1 = none ∧ p.1 ≠ (envOfC qual scope s.heap.objs.size f cd).locals ∧ p.1 ∉ frs outer ∧ ∀ v, p.2.data ≠ .cell v) :
    Inv (gcxOf P w K mg base N qual scope f cd A outer s H E' pn') pins' σ H' s1 :=
  ⟨⟨I.ok.mod, I.ok.kind, I.ok.glob, I.ok.blt, I.ok.above, I.ok.inj, I.ok.has, I.ok.cab, I.ok.hd, I.ok.frames, I.ok.stk, I.ok.exf, I.ok.bs, I.ok.bsz, I.ok.noex, I.ok.exfs, I.ok.funs, I.ok.frf⟩, I.os, I.bare, I.base, I.loc, I.cell, I.free, I.freeC, h, I.hok, I.len⟩
end
theorem takesG {P : Program} {w : World} {K : PySem.W.Frag} {mg : Str → Option Value} {base : Heap} {N : List Str} {qual : Str} {scope : Scope} {f : Addr} {cd : Value} {A : Around} {outer : List Env} {s : Shared} {H : Hp} {E : XK} {pn : List (Addr × Obj)} :
    Takes (gcxOf P w K mg base N qual scope f cd A outer s H (exE E pn) pn) (fun cls d _ H' => E cls d H') := fun u s' x => by
  refine takes_gcx u s' ?_
  obtain ⟨a, B, sI, pins, σ, H1, cls, d, e, I, nb, up, sky, na, os, ag, q⟩ := x
  exact ⟨a, B, sI, pins, σ, H1, cls, d, e, I, nb, up, sky, na, os, ag, q, fun p hp => (I.pin p (List.mem_append_left _ hp)).2.1⟩
/-- THE RULE: pre hands out nothing and may raise; rest hands out and raises nothing -/
theorem gfns_of {P : Program} {w : World} {K : PySem.W.Frag} {mg : Str → Option Value} {base : Heap} {k : Nat} {f : Addr} {name qual : Str} {params : Arguments} {body : List Stmt} {scope : Scope} {dV kV doc pm cdv ct oc : Value} {an od : Option Addr}
    {osl : Array (Option Value)} {N ps : List Str} {sp : SpGs} (pre rest : List Stmt) (hbd : body = pre ++ rest) (lk : K.lookup f = some ⟨oc, od, .func (PySem.W.fnOf name qual params body scope dV kV doc pm an cdv ct), osl⟩) (hcd : PySem.W.codeIn K cdv qual = true) (S : GScope N ps scope)
    (len : ∀ vs H Cw Yw Q E, sp vs H Cw Yw Q E → vs.length = ps.length)
    (hbody : ∀ (A : Around) (outer : List Env) (s : Shared) (H : Hp) (vs : List V) (Cw : Gh → Hp → Prop) (Yw : Gh → V → Hp → Prop) (Q : Gh → Hp → Prop) (E : XK), Room k (A.deeper (envOfC qual scope s.heap.objs.size f cdv)) → sp vs H Cw Yw Q E →
      ∃ (t : TS) (u : Addr → List Addr → TGg), (∀ pn, PSs (gcxOf P w K mg base N qual scope f cdv A outer s H (exE E pn) pn) pre t) ∧ (∀ pn D Ts, GTs (gcxOf P w K mg base N qual scope f cdv A outer s H noX pn) ⟨D, Ts, Cw, Yw⟩ rest (u D Ts)) ∧
        ∀ D Ts g, g.1 = 0 → Cw g H → t { nx := fun σ' H' => u D Ts { nx := fun g' _ H'' => Q g' H'', rt := fun g' v H'' => v = .non ∧ Q g' H'' } g σ' H', rt := fun v H' => v = .non ∧ Q g H' } (start N vs) H) :
    GFns P w K mg base (k + 1) f (PySem.W.fnOf name qual params body scope dV kV doc pm an cdv ct) ps sp := by
  subst hbd
  refine ⟨len, fun A outer s H args us vs Cw Yw Q E hr e0 hb r hsp => ?_⟩
  have hl := len _ _ _ _ _ _ hsp
  have KX : K.In s.heap := e0.mod.kin.keeps fun b o e => (e0.bs b o e).1
  have lim : s.heap.NoLimit := e0.mod.nolimit.keeps fun b o e => (e0.bs b o e).1
  have hkind : ∀ y ∈ ps.zip us, scope.names.lookup y.1 = some .local ∨ (scope.names.lookup y.1 = some .cell ∧ ((cellsFrom (s.heap.objs.size + 1) scope.names []).lookup y.1).isSome = true) := fun ⟨n, v⟩ hy => by
    rcases S.par n (List.of_mem_zip hy).1 with q | q
    · exact .inl q
    · exact .inr ⟨q, PySem.W.cellsFrom_some _ _ _ (.inl q)⟩
  refine codeAny_call_generator hr.depth (KX _ _ lk) rfl S.co S.gen rfl (PySem.W.codeRec_of KX hcd) (hb _ _ _ _ ?_)
  refine wpAny_newFunctionEnv_cells S.kind hkind fun env he s1 x => ?_
  subst he
  have lim1 : s1.heap.NoLimit := lim.keeps x.toInCall.keep
  refine ⟨lim1, ?_⟩
  obtain ⟨h1, tk, es1, hk1⟩ := x.done
  have os1 : s1.os = s.os := by rw [es1]
  have gen1 : s1.gens = s.gens := by rw [es1]
  have lt1 : s.heap.objs.size < s1.heap.objs.size := x.toInCall.ns.lt
  have sz1 : s.heap.objs.size ≤ s1.heap.objs.size := Nat.le_of_lt lt1
  have kp1 : ∀ b o, s.heap.get? b = some o → s1.heap.get? b = some o := x.toInCall.keep
  have main : ∀ (go : Obj) (nm qn : Value) (tk2 : Nat), go.cls = .type "generator" → go.data = .fields #[.int s1.gens.size 0, nm, qn] → go.slots = #[] → (∀ h : Heap, (h.push go).get? h.objs.size = some go) →
      GsMade P w (k + 1) outer H s Cw Yw Q E (.ref s1.heap.objs.size) { s1 with gens := s1.gens.push (.fresh (.func (pre ++ rest) (envOfC qual scope s.heap.objs.size f cdv))), toks := tk2, heap := s1.heap.push go } := by
    intro go nm qn tk2 hgc hgd0 hgs hgp
    have hgen : ∀ h : Heap, h.get? s1.heap.objs.size = some go → h.IsGen s1.heap.objs.size s1.gens.size := fun h e => ⟨go, nm, qn, e, hgc, hgd0, hgs⟩
    have hpushed : (s1.heap.push go).get? s1.heap.objs.size = some go := hgp _
    refine ⟨s1.heap.objs.size, s1.gens.size, _, rfl, sz1, ?_, hgen _ hpushed, Array.getElem?_push_size .., os1, ?_, lim1.keeps fun b o e => Heap.get?_push_of_some _ e, fun b o e => Heap.get?_push_of_some _ (kp1 b o e), ?_⟩
    · show _ < (s1.heap.push _).objs.size
      rw [Heap.size_push]; exact Nat.lt_succ_self _
    · exact AllBare.push (by rw [gen1]; exact e0.bare) rfl
    intro Aw Dx Ts s2 hrw hfr hTs hk2 hos hba hC0
    have hTs' : ∀ S ∈ Ts, s1.heap.objs.size < S ∧ ∃ o, s2.heap.get? S = some o ∧ ∀ v, o.data ≠ .cell v := fun S hS => by
      obtain ⟨q1, q2⟩ := hTs S hS
      have q1 : (s1.heap.push go).objs.size ≤ S := q1
      rw [Heap.size_push] at q1
      exact ⟨q1, q2⟩
    have e0w : Env0 P w K mg base Aw outer s H := ⟨hfr, e0.mod, e0.bs, e0.bsz, e0.funs, e0.frf, e0.hok, e0.bare⟩
    obtain ⟨t, u, ht, hu, hq⟩ := hbody Aw outer s H vs Cw Yw Q E (hrw.deeper _) hsp
    have hq := hq Dx Ts (0, s2.heap.get? Dx) rfl hC0
    have I1 : Inv (gcxOf P w K mg base N qual scope f cdv Aw outer s H E []) [] (start N vs) H s1 := inv_startG S hrw.hd e0w hl r x
    have kp2 : ∀ b o, s1.heap.get? b = some o → s2.heap.get? b = some o := fun b o e => hk2 b o (Heap.get?_push_of_some _ e)
    have I2 : Inv (gcxOf P w K mg base N qual scope f cdv Aw outer s H E []) [] (start N vs) H s2 :=
      I1.call' (ch := []) (hos.trans os1.symm) (Un.kept kp2) (I1.hok.kept kp2) hba fun b z => by simp at z
    have hea : s2.heap.get? s1.heap.objs.size = some go := hk2 s1.heap.objs.size go hpushed
    have hgd : ∀ v, go.data ≠ .cell v := fun v q => by rw [hgd0] at q; cases q
    have young : ∀ b, s1.heap.objs.size ≤ b → H b = none ∧ b ≠ s.heap.objs.size ∧ b ∉ frs outer ∧ s.heap.objs.size ≤ b ∧ ∀ y c, (cellsFrom (s.heap.objs.size + 1) scope.names []).lookup y = some c → c ≠ b := fun b hb => by
      refine ⟨I1.hok.fresh hb, Nat.ne_of_gt (Nat.lt_of_lt_of_le lt1 hb), I1.nofs hb, Nat.le_trans sz1 hb, fun y c e z => ?_⟩
      obtain ⟨v, ob, ho, _⟩ := I1.cell y c e
      have := Heap.lt_size ho
      rw [z] at this
      exact absurd (Nat.lt_of_lt_of_le this hb) (Nat.lt_irrefl _)
    have pinA : ∀ p ∈ [(s1.heap.objs.size, go)] ++ pinsAt Ts s2.heap, s2.heap.get? p.1 = some p.2 ∧ H p.1 = none ∧ p.1 ≠ (envOfC qual scope s.heap.objs.size f cdv).locals ∧ p.1 ∉ frs outer ∧ ∀ v, p.2.data ≠ .cell v := fun p hp => by
      rcases List.mem_append.mp hp with z | z
      · rw [List.mem_singleton.mp z]
        obtain ⟨y1, y2, y3, _, _⟩ := young s1.heap.objs.size (Nat.le_refl _)
        exact ⟨hea, y1, y2, y3, hgd⟩
      · obtain ⟨hb, e⟩ := of_pinsAt z
        obtain ⟨q1, o, q2, q3⟩ := hTs' p.1 hb
        rw [e] at q2; cases q2
        obtain ⟨y1, y2, y3, _, _⟩ := young p.1 (Nat.le_of_lt q1)
        exact ⟨e, y1, y2, y3, q3⟩
    have IA : Inv (gcxOf P w K mg base N qual scope f cdv Aw outer s H (exE E ((s1.heap.objs.size, go) :: pinsAt Ts s2.heap)) ((s1.heap.objs.size, go) :: pinsAt Ts s2.heap)) (pinsAt Ts s2.heap) (start N vs) H s2 := reG I2 fun p hp => by
      rcases List.mem_append.mp hp with hp | hp
      · exact pinA p hp
      · exact pinA p (List.mem_append_right _ hp)
    have eTs : (pinsAt Ts s2.heap).map Prod.fst = Ts := pinsAt_fst fun b hb => let ⟨_, o, e, _⟩ := hTs' b hb; ⟨o, e⟩
    have fTs : ∀ p ∈ pinsAt Ts s2.heap, s2.heap.get? p.1 = some p.2 := fun p hp => (of_pinsAt hp).2
    have hAp : ∀ S ∈ Ts, Apart (gcxOf P w K mg base N qual scope f cdv Aw outer s H noX [(s1.heap.objs.size, go)]) S := fun S hS => by
      obtain ⟨_, y2, _, y4, y5⟩ := young S (Nat.le_of_lt (hTs' S hS).1)
      exact ⟨y4, y2, y5⟩
    have naTs : s1.heap.objs.size ∉ Ts := fun z => Nat.lt_irrefl _ (hTs' _ z).1
    have toB : ∀ {σ' : L2.St} {H' : Hp} {s3 : Shared}, Inv (gcxOf P w K mg base N qual scope f cdv Aw outer s H (exE E ((s1.heap.objs.size, go) :: pinsAt Ts s2.heap)) ((s1.heap.objs.size, go) :: pinsAt Ts s2.heap)) (pinsAt Ts s2.heap) σ' H' s3 →
        GJ (gcxOf P w K mg base N qual scope f cdv Aw outer s H noX [(s1.heap.objs.size, go)]) Ts [] σ' H' s2 s3 := fun {σ' H' s3} I => by
      refine ⟨pinsAt Ts s2.heap, eTs, fTs, reG I fun p hp => ?_⟩
      rcases List.mem_append.mp hp with hp | hp
      · rw [List.mem_singleton.mp hp]
        exact I.pin (s1.heap.objs.size, go) (List.mem_append_left _ List.mem_cons_self)
      · rw [List.append_nil] at hp
        exact I.pin p (List.mem_append_right _ hp)
    have pinned : ∀ {ip : List (Addr × Obj)} {s₀ s3 : Shared} {σ' : L2.St} {H' : Hp}, GJ (gcxOf P w K mg base N qual scope f cdv Aw outer s H noX [(s1.heap.objs.size, go)]) Ts ip σ' H' s₀ s3 → s3.heap.IsGen s1.heap.objs.size s1.gens.size ∧ (H' s1.heap.objs.size = none ∧ s1.heap.objs.size ∉ frs outer) ∧ ∀ b ∈ Ts, H' b = none ∧ s3.heap.get? b = s₀.heap.get? b := fun {ip s₀ s3 σ' H'} hJ => by
      have hat := hJ.at
      obtain ⟨os, e, e0, I⟩ := hJ
      have pa := I.pin (s1.heap.objs.size, go) (List.mem_append_left _ (List.mem_singleton.mpr rfl))
      refine ⟨hgen _ pa.1, ⟨pa.2.1, pa.2.2.2.1⟩, fun b hb => ?_⟩
      obtain ⟨z1, _, _, o, z2, z3⟩ := hat b hb
      exact ⟨z1, z3.trans z2.symm⟩
    refine seg_func ?_
    refine seg_imp (R := fun n s₀ r s3 => match r with
        | .ok (.ret u) => ∃ g v ip σ' H', n + g.1 = sizeLine ∧ g.2 = s₀.heap.get? Dx ∧ GJ (gcxOf P w K mg base N qual scope f cdv Aw outer s H noX [(s1.heap.objs.size, go)]) Ts ip σ' H' s₀ s3 ∧ RelV v u ∧ v = .non ∧ Q g H'
        | .ok _ => False
        | .error e => CX P w outer H s (fun cls d H' => E cls d H' ∧ ∀ b ∈ Ts, H' b = none) e s3 ∧ s3.heap.IsGen s1.heap.objs.size s1.gens.size ∧ ∀ b ∈ Ts, s3.heap.get? b = s2.heap.get? b)
      (Y := GYs (gcxOf P w K mg base N qual scope f cdv Aw outer s H noX [(s1.heap.objs.size, go)]) ⟨Dx, Ts, Cw, Yw⟩) (fun n s₀ r s3 hR => ?_) (fun n s₀ v s3 kap kap' hkk hY => ?_) sizeLine ?_
    · cases r with
      | error e => exact .inr ⟨e, rfl, hR⟩
      | ok fl =>
        cases fl with
        | next => exact False.elim hR
        | brk => exact False.elim hR
        | cont => exact False.elim hR
        | ret u =>
          obtain ⟨g, v, ip, σ', H', hn, hg, hJ, rv, ev, hQ⟩ := hR
          subst ev
          have eu : u = Value.none := rv
          subst eu
          have J := hJ.inv
          exact .inl ⟨.inl rfl, g, H', hn, hg, J.os, J.bare, J.base, J.hok, (pinned hJ).2.2, hQ⟩
    · obtain ⟨g, xx, ip, σ', H', hn, hg, rv, hJ, hY, h3⟩ := hY
      have J := hJ.inv
      obtain ⟨p1, pa, p2⟩ := pinned hJ
      exact ⟨g, xx, H', hn, hg, rv, J.os, J.bare, J.nolimit, p1, pa, J.base, J.hok, p2, hY, fun H'' z q hC => hkk _ _ (h3 H'' z q hC)⟩
    · refine seg_app ?_
      rw [over_func]
      refine wpAny_mono ((ht ((s1.heap.objs.size, go) :: pinsAt Ts s2.heap)).run (pinsAt Ts s2.heap) s2 (start N vs) H _ IA hq) (fun fl s3 hfl => ?_) fun e s3 hx => ?_
      · cases fl with
        | next =>
          obtain ⟨σ3, H3, I3, q3⟩ := hfl
          refine (hu [(s1.heap.objs.size, go)] Dx Ts).run Aw [] _ sizeLine (0, s2.heap.get? Dx) s2 _ [] _ _ id id s3 σ3 H3 _ ⟨fun p hp => ?_, hAp, over_func, rfl, rfl, rfl⟩ (Nat.add_zero _) rfl ⟨fun n g s₀ s4 fl4 hn hg hs => ?_, fun n s₀ e s4 hx => ?_⟩ (toB I3) q3
          · have hp : p ∈ [(s1.heap.objs.size, go)] ++ [] := hp
            rw [List.append_nil] at hp
            rw [List.mem_singleton.mp hp]
            exact naTs
          · cases fl4 with
            | next =>
              obtain ⟨σ4, H4, J4, q4⟩ := hs
              exact seg_end (.ok (.ret .none)) ⟨g, .non, [], σ4, H4, hn, hg, J4, rfl, rfl, q4⟩
            | brk => obtain ⟨_, _, _, q⟩ := hs; exact False.elim q
            | cont => obtain ⟨_, _, _, q⟩ := hs; exact False.elim q
            | ret u =>
              obtain ⟨v, σ4, H4, J4, rv, ev, q4⟩ := hs
              exact seg_end (.ok (.ret u)) ⟨g, v, [], σ4, H4, hn, hg, J4, rv, ev, q4⟩
          · refine seg_wrap ?_
            rw [over_func]
            refine wpAny_mono (show wpAny (model P w) (Aw.deeper (envOfC qual scope s.heap.objs.size f cdv)) (leaving (envOfC qual scope s.heap.objs.size f cdv) e) (fun _ s'' => CX P w outer H s noX e s'' ∧ ∀ p ∈ [(s1.heap.objs.size, go)], s''.heap.get? p.1 = some p.2) (fun _ _ => False) s4 from hx) (fun _ s'' q => ?_) fun _ s'' q => q.elim
            obtain ⟨⟨_, _, _, _, _, _, _, _, _, _, _, _, q⟩, _⟩ := q
            exact q.elim
        | brk => obtain ⟨_, _, _, q⟩ := hfl; exact False.elim q
        | cont => obtain ⟨_, _, _, q⟩ := hfl; exact False.elim q
        | ret u =>
          obtain ⟨v, σ4, H4, I4, rv, ev, q4⟩ := hfl
          exact seg_end (.ok (.ret u)) ⟨(0, s2.heap.get? Dx), v, [], σ4, H4, Nat.add_zero _, rfl, toB I4, rv, ev, q4⟩
      · refine seg_wrap ?_
        rw [over_func]
        refine wpAny_mono (show wpAny (model P w) (Aw.deeper (envOfC qual scope s.heap.objs.size f cdv)) (leaving (envOfC qual scope s.heap.objs.size f cdv) e) (fun _ s'' => CX P w outer H s (exE E ((s1.heap.objs.size, go) :: pinsAt Ts s2.heap)) e s'' ∧ ∀ p ∈ (s1.heap.objs.size, go) :: pinsAt Ts s2.heap, s''.heap.get? p.1 = some p.2) (fun _ _ => False) s3 from hx) (fun _ s'' q => ?_) fun _ s'' q => q.elim
        have q1 : CX P w outer H s (fun cls d H' => E cls d H' ∧ ∀ b ∈ Ts, H' b = none) e s'' := by
          obtain ⟨ea, B, H', cls, d, z1, z2, z3, z4, z5, z6, z7, z8, z9⟩ := q.1
          refine ⟨ea, B, H', cls, d, z1, z2, z3, z4, z5, z6, z7, z8, fun b hb => ?_⟩
          obtain ⟨_, o, e1, _⟩ := hTs' b hb
          exact z9 (b, o) (List.mem_cons_of_mem _ (mem_pinsAt hb e1))
        refine seg_end (.error e) ⟨q1, hgen _ (q.2 (s1.heap.objs.size, go) List.mem_cons_self), fun b hb => ?_⟩
        obtain ⟨_, o, e1, _⟩ := hTs' b hb
        rw [e1]
        exact q.2 (b, o) (List.mem_cons_of_mem _ (mem_pinsAt hb e1))
  exact main _ _ _ _ rfl rfl rfl fun h => Heap.get?_push_size _ rfl
end L2

/-! G5 -/
/-! ### a comprehension over a generator -/
namespace L2
open PySem PySem.Spec PyProof.Rows GenW

theorem ObjOk.there {P : Program} {w : World} {H : Hp} {h : Heap} {a : Addr} {o : HO} (x : ObjOk P w H h a o) : ∃ ob, h.get? a = some ob := by
  cases o with
  | lst xs => obtain ⟨_, _, _, _, e⟩ := x; exact ⟨_, e⟩
  | tup xs => obtain ⟨_, _, _, ob, e, _⟩ := x; exact ⟨ob, e⟩
  | dK kvs => obtain ⟨_, _, _, _, o, _, _, e, _⟩ := x; exact ⟨o, e⟩
  | dT kvs => obtain ⟨_, _, _, _, o, _, _, e, _⟩ := x; exact ⟨o, e⟩
  | set S n => obtain ⟨o, _, _, _, e, _⟩ := x; exact ⟨o, e⟩
  | ins C dx fs => obtain ⟨_, _, _, e, _⟩ := x; exact ⟨_, e⟩
  | own y => exact x
  | xd fs => obtain ⟨_, ⟨o, _, _, e, _⟩, _⟩ := x; exact ⟨o, e⟩
  | rng lo hi => obtain ⟨_, _, _, e⟩ := x; exact ⟨_, e⟩
  | frz ob u => exact ⟨ob, x.1⟩
  | tbl ps => exact ⟨_, (show h.get? a = some _ from x)⟩
  | met f y => exact ⟨_, (show h.get? a = some _ from x)⟩
  | ext φ => exact x.2.1

section
variable {X : Cx} {pins : List (Addr × Obj)} {σ : St} {H H' : Hp} {s : Shared}
/-- a local name is stored; the state as it is then -/
theorem store_g {M : Model} {A : Around} {E : Value → Shared → Prop} {i : Nat} {x : Str} {v : V} {u : Value} {Q : Unit → Shared → Prop} (I : Inv X pins σ H s) (hN : X.N.Nodup) (hi : X.N[i]? = some x) (hk : X.env.scope.names.lookup x = some .local) (r : RelV v u)
    (h : ∀ h' t', Inv X pins (σ.set i (some v)) H { s with heap := h', toks := t' } → Q () { s with heap := h', toks := t' }) : wpAny M A (storeName X.env x u) Q E s := by
  obtain ⟨m, hn, hl⟩ := id I.loc
  have hcls : (X.env.scope.kind == .class || (X.env.scope.kind == .module && X.env.locals != X.env.globals)) = false := by rw [I.ok.kind]; rfl
  have hiσ : i < σ.length := by rw [I.len]; exact (List.getElem?_eq_some_iff.mp hi).1
  refine wpAny_storeName_local hk hn (fun h' hn' hs => h h' _ ?_) hcls
  have nL : ∀ b o, X.s_0.heap.get? b = some o → b ≠ X.env.locals := fun b o e => Nat.ne_of_lt (Nat.lt_of_lt_of_le (Heap.lt_size e) I.ok.above)
  refine ⟨I.ok, I.os, I.bare, ⟨fun b o e n hb hx => (hs.2 b (nL b o e)).trans (I.base.keep b o e n hb hx), fun b o e n hb hx => ?_, I.base.free, fun b o e hx => ?_, I.base.tups, I.base.frzs, I.base.tbls⟩, ⟨_, hn', fun j y v' e1 e2 e3 => ?_⟩, fun y c e => ?_, I.free, I.freeC, fun p hp => ?_, fun b ob e => ?_, by simpa using I.len⟩
  · obtain ⟨sl, e1⟩ := I.base.slot b o e n hb hx
    exact ⟨sl, (hs.2 b (nL b o e)).trans e1⟩
  · obtain ⟨o', e1⟩ := I.base.there b o e hx
    exact ⟨o', (hs.2 b (nL b o e)).trans e1⟩
  · by_cases hj : j = i
    · subst hj
      rw [hi] at e1; cases e1
      rw [List.getElem?_set_self hiσ] at e2
      cases e2
      exact ⟨u, r, .inl ⟨hk, by simp⟩⟩
    · rw [List.getElem?_set_ne (Ne.symm hj)] at e2
      obtain ⟨u', r', q⟩ := hl j y v' e1 e2 e3
      refine ⟨u', r', ?_⟩
      rcases q with ⟨k, e⟩ | ⟨k, c, e, z⟩
      · refine .inl ⟨k, ?_⟩
        have ny : y ≠ x := fun e => hj (nodup_ix hN e1 (e ▸ hi))
        simp [ny, e]
      · exact .inr ⟨k, c, e, z.sameBut hs (I.cne y c e)⟩
  · obtain ⟨w', z⟩ := I.cell y c e
    exact ⟨w', z.sameBut hs (I.cne y c e)⟩
  · obtain ⟨e, n, ne, nf, d⟩ := I.pin p hp
    exact ⟨(hs.2 p.1 ne).trans e, n, ne, nf, d⟩
  · refine (I.hok b ob e).stay (fun c w' hc q => (hs.2 c ?_).trans q) (fun _ q => q) fun _ _ q => q
    rintro rfl
    have nf := I.free
    rcases hc with z | z
    · rw [← z, nf] at e; cases e
    · rw [nf] at z; cases z
/-- appended; the state as it is then -/
theorem app_g {E : Value → Shared → Prop} {D : Addr} {xs : List V} {y : V} {v : Value} {Q : Value → Shared → Prop} (I : Inv X pins σ H s) (hD : H D = some (.lst xs)) (hz : xs.length < sizeLine) (r : RelV y v)
    (h : ∀ h', Inv X pins σ (upd H D (.lst (xs ++ [y]))) { s with heap := h' } → Q .none { s with heap := h' }) : wpAny (model X.prog X.w) X.A (call (.builtin "list.append") [.ref D, v]) Q E s := by
  obtain ⟨hz', its, n, ri, e⟩ := I.hok D _ hD
  have hl := ri.length
  refine append_at (hsz := by rw [List.size_toArray]; omega) e fun h' sb ho' => h h' ?_
  refine I.write (t' := s.toks) (by rw [hD]; trivial) (.inl rfl) (fun b u hb q => (sb.2 b hb).trans q) ⟨_, ho'⟩ ⟨by rw [List.length_append]; exact hz, its ++ [v], n + 1, ri.append (.cons r .nil), ?_⟩
  rw [ho']
  simp

/-- the block's context over an earlier state -/
theorem blk_base {scope : Scope} {ce : Env} {σ' : St} {H1 H3 H4 : Hp} {sc s3 s4 : Shared} (I : Inv X pins σ H1 sc) (hsz : sc.heap.objs.size ≤ s3.heap.objs.size) (J : Inv (X.blk s3 H3 scope ce []) [] σ' H4 s4) (os : s4.os = sc.os) (un : Un (frs X.stack) [] H1 H4 sc.heap s4.heap) :
    Inv (X.blk sc H1 scope ce []) [] σ' H4 s4 :=
  ⟨⟨J.ok.mod, J.ok.kind, J.ok.glob, J.ok.blt, Nat.le_trans hsz J.ok.above, J.ok.inj, J.ok.has, fun x c h1 h2 => Nat.le_trans hsz (J.ok.cab x c h1 h2), J.ok.hd, J.ok.frames, J.ok.stk, (fun b hb => nomatch hb), I.bs, Nat.le_trans I.ok.bsz I.sz, (fun _ _ _ hb => nomatch hb), (fun b hb => nomatch hb), I.stack, I.stkFree⟩,
    os, J.bare, un, J.loc, J.cell, J.free, J.freeC, J.pin, J.hok, J.len⟩
/-- the block's state anew: its names' object is as it was, its captured cells stand in the earlier state -/
theorem blk_again {scope : Scope} {ce : Env} {σ' : St} {H1 Hz Hc : Hp} {sc z s' : Shared} (J : Inv (X.blk sc H1 scope ce []) [] σ' Hz z) (hcl : ∀ x c, ce.cells.lookup x = some c → H1 c = none ∧ ∃ o, sc.heap.get? c = some o)
    (os : s'.os = sc.os) (bare : AllBare s'.gens) (un : Un (frs X.stack) [] H1 Hc sc.heap s'.heap) (hok : HOk X.prog X.w Hc s'.heap) (hC : ∀ o, z.heap.get? ce.locals = some o → s'.heap.get? ce.locals = some o) (hn : Hc ce.locals = none) :
    Inv (X.blk sc H1 scope ce []) [] σ' Hc s' := by
  have cell : ∀ x c, ce.cells.lookup x = some c → ∀ v, z.heap.IsCell c v → s'.heap.IsCell c v := fun x c e v ⟨o, ho, hd⟩ => by
    obtain ⟨n1, o1, e1⟩ := hcl x c e
    obtain ⟨sl, e2⟩ := J.base.any (b := c) e1 n1 (fun z => nomatch z)
    obtain ⟨sl', e3⟩ := un.any (b := c) e1 n1 (fun z => nomatch z)
    have e2 : z.heap.get? c = some { o1 with slots := sl } := e2
    rw [e2] at ho; cases ho
    exact ⟨_, e3, hd⟩
  refine ⟨J.ok, os, bare, un, ?_, fun x c e => ?_, hn, fun x c e => ?_, fun p hp => J.pin p hp |>.2.1 |> fun _ => absurd (show p ∈ ([] : List (Addr × Obj)) ++ [] from hp) (by simp), hok, J.len⟩
  · obtain ⟨m, hm, hl⟩ := J.loc
    refine ⟨m, hm.at' fun o e => hC o e, fun i x v e1 e2 e3 => ?_⟩
    obtain ⟨u, r, l⟩ := hl i x v e1 e2 e3
    refine ⟨u, r, ?_⟩
    rcases l with l | ⟨k, c, e, q⟩
    · exact .inl l
    · exact .inr ⟨k, c, e, cell x c e _ q⟩
  · obtain ⟨v, q⟩ := J.cell x c e
    exact ⟨v, cell x c e v q⟩
  · obtain ⟨n1, o1, e1⟩ := hcl x c e
    exact un.free c o1 e1 n1 (fun z => nomatch z)
end

/-- an expression that makes and wakes no generator -/
structure PEg (X : Cx) (e : Expr) (t : TE) : Prop where
  run : ∀ (pins : List (Addr × Obj)) (s : Shared) (σ : St) (H : Hp) (Q : VK), Inv X pins σ H s → t σ H Q → wpAny (model X.prog X.w) X.A (eval e X.env) (fun u s' => s'.gens = s.gens ∧ EP X pins σ Q u s') X.xe s
theorem pg_var {X : Cx} {i : Nat} {x : Str} {pos : Pos} (hN : X.N[i]? = some x) (hv : Vis X.env.scope x) (hd : (x == ("__debug__" : Str)) = false := by decide) (hcd : (x == ("__classdict__" : Str)) = false := by decide) : PEg X (.Name x pos) (tVar i) := by
  refine ⟨fun pins s σ H Q I h => ?_⟩
  obtain ⟨v, e, h⟩ := h
  obtain ⟨m, hn, hl⟩ := I.loc
  obtain ⟨u, r, l⟩ := hl i x v hN e hv
  have fin : s.gens = s.gens ∧ EP X pins σ Q u s := ⟨rfl, v, H, I, r, h⟩
  rcases l with ⟨hk, hm⟩ | ⟨hk, c, hc, hcell⟩
  · exact wpAny_Name (wpAny_loadName_local I.ok.kind hk hn hm fin) hd
  · rcases hk with hk | hk
    · exact wpAny_Name (wpAny_loadName_cell I.ok.kind hk hc hcell fin) hd
    · exact wpAny_Name (wpAny_loadName_free I.ok.kind hk hc hcell fin hcd) hd

/-- what a generator's expression asks: what holds of the heap where it is made; the wishes -/
abbrev TGq := St → Hp → (Hp → Prop) → (Gh → Hp → Prop) → (Gh → V → Hp → Prop) → (Gh → Hp → Prop) → Prop
structure PGq (X : Cx) (k : Nat) (e : Expr) (tg : TGq) (E : St → XK) : Prop where
  run : ∀ (pins : List (Addr × Obj)) (s : Shared) (σ : St) (H : Hp) (P0 : Hp → Prop) (Cw : Gh → Hp → Prop) (Yw : Gh → V → Hp → Prop) (Qw : Gh → Hp → Prop), Inv X pins σ H s → tg σ H P0 Cw Yw Qw → wpAny (model X.prog X.w) X.A (eval e X.env)
    (fun u s' => ∃ H1 sc, Inv X pins σ H1 sc ∧ P0 H1 ∧ GsMade X.prog X.w k X.stack H1 sc Cw Yw Qw (E σ) u s') X.xe s
def tCallGs (sp : SpGs) (dvs : List V) (E : St → XK) (t : TA) : TGq := fun σ H P0 Cw Yw Qw => t σ H fun vs H1 => P0 H1 ∧ sp (vs ++ dvs) H1 Cw Yw Qw (E σ)
theorem pgs_call {X : Cx} {k : Nat} {f : Addr} {fd : FuncData} {ps : List Str} {sp : SpGs} {dvs : List V} {ds : List Value} {x : Str} {p pos' : Pos} {E : St → XK} {e : Expr} {es : List Expr} {t : TA} (F : GFns X.prog X.w X.K X.mg X.base k f fd ps sp) (hr : Room k X.A) (hg : Gl X x) (hm : X.mg x = some (.ref f))
    (hk : PySem.W.keepIn X.K (.ref f) = true) (hb : Binds X.K fd ps ds) (hd : Vals dvs ds) (ha : PA X (e :: es) t) (hdb : (x == ("__debug__" : Str)) = false := by decide) (he : starEach (e :: es) X.env = (false, eval e X.env) :: starEach es X.env := by rfl)
    (hpl : (backTo pos' (starEach es X.env)).any (·.1) = false := by rfl) : PGq X k (.Call (.Name x p) (e :: es) [] pos') (tCallGs sp dvs E t) E := by
  refine ⟨fun pins s σ H P0 Cw Yw Qw I h => ?_⟩
  refine wpAny_Call_Name_kw (ld_glob I hg hm ?_ hdb)
  refine PySem.W.callWith_K (h₀ := X.base) I.ok.mod.kin hk (thn (ha.run pos' pins s σ H _ I h) fun us s1 ⟨vs, H1, I1, r, p0, q⟩ => ⟨I1.kIn, ?_⟩) he hpl
  have r2 : Vals (vs ++ dvs) (us ++ ds) := r.append hd
  have hl2 : (us ++ ds).length = ps.length := by rw [← r2.length]; exact F.len _ _ _ _ _ _ q
  refine wpAny_call (codeAny_mono (F.run X.A X.stack s1 H1 ⟨us, []⟩ (us ++ ds) (vs ++ dvs) Cw Yw Qw (E σ) hr I1.env0 (hb s1 us I1.kIn hl2) r2 q) fun r s' hq => ?_)
  cases r with
  | error e => exact False.elim hq
  | ok fl =>
    cases fl with
    | ret u => exact ⟨H1, s1, I1, p0, hq⟩
    | next => exact False.elim hq
    | brk => exact False.elim hq
    | cont => exact False.elim hq
end L2

/-! G6 -/
/-! ### an exception out of a generator that a comprehension walks -/
namespace L2
open PySem PySem.Spec PyProof.Rows GenW
theorem fails_of {X : Cx} {pins : List (Addr × Obj)} {σ : St} {H1 : Hp} {sc s1 : Shared} {Wx : WX} {E : XK} {ce : Env} {e : Value} {m : Str → Option Value} (I : Inv X pins σ H1 sc) (tk : Takes X Wx) (hW : ∀ cls d H, E cls d H → Wx cls d σ H)
    (hstk : X.stack = X.env :: X.outer) (hf : X.env.frame = some X.env.locals) (hcf : ce.frame = X.env.frame) (hC : ce.locals ∉ frs X.stack) (hsz : sc.heap.objs.size ≤ ce.locals)
    (c : CX X.prog X.w X.stack H1 sc (fun cls d H' => E cls d H' ∧ H' ce.locals = none) e s1) (hn : s1.heap.Ns ce.locals m) :
    notedBy (model X.prog X.w) X.A ce (CompFails (model X.prog X.w) X.A X.xe ce) e s1 := by
  obtain ⟨a, B, H', cls, d, rfl, fl, hok, ub, na, os, ag, hE, hnC⟩ := c
  obtain ⟨f1, f2, f3, f4⟩ := fl
  obtain ⟨B', hB'⟩ : ∃ B', B' = PySem.W.hideAll B [ce.locals] := ⟨_, rfl⟩
  have hB1 : ∀ b o, B'.get? b = some o → B.get? b = some o := fun b o e => by rw [hB'] at e; exact PySem.W.of_hideAll _ e
  have hB0 : ∀ b, B.get? b = none → B'.get? b = none := fun b e => by
    cases q : B'.get? b with
    | none => rfl
    | some o => rw [hB1 b o q] at e; cases e
  have hB2 : ∀ b o, b ≠ ce.locals → B.get? b = some o → B'.get? b = some o := fun b o hb e => by
    rw [hB']; exact PySem.W.hideAll_get _ e fun z => hb (List.mem_singleton.mp z)
  have hB3 : B'.get? ce.locals = none := by rw [hB']; exact PySem.W.hideAll_none _ (List.mem_singleton.mpr rfl)
  have fl' : HandSPX.FlyingZ B' X.stack a (Zc cls d) s1.heap := by
    refine ⟨fun b o e => f1 b o (hB1 b o e), hB0 a f2, funFrames_none f3 fun b hb => hB0 b (f3.mem hb).1, ?_⟩
    obtain ⟨oe, vs, T, oT, ts, he, hz, hd, h1, hnT, r⟩ := f4
    exact ⟨oe, vs, T, oT, ts, he, hz, hd, h1, hB0 T hnT, r⟩
  have hfr : X.A.frames = some (X.env :: X.outer) := by rw [I.ok.frames, hstk]
  show wpAny _ X.A (noteFrame (.ref a) ce) _ _ s1
  rw [noteFrame_env _ hcf]
  have fl2 := fl'
  rw [hstk] at fl2
  refine HandSPX.looks_onZ Zc.steady hfr hf fl2 fun h' held up => ?_
  refine ⟨m, hn.upToSlots up, fun h2 m2 hn2 hs2 => ?_⟩
  have hn' := hn.upToSlots up
  obtain ⟨b1, b0, ff, oe, vs, T, oT, ts, he, hz, hd, h1, hnT, hTe, hT, hdT, h3⟩ := held
  have nC : ∀ b o us, h'.get? b = some o → o.data = .fields us → b ≠ ce.locals := fun b o us e q z => by
    obtain ⟨oc, es, ep, eo, ed, _⟩ := hn'
    rw [z, eo] at e; cases e
    rw [ed] at q; cases q
  have he2 : h2.get? a = some oe := (hs2.2 a (nC a oe vs he hd)).trans he
  have hT2 : h2.get? T = some oT := (hs2.2 T (nC T oT ts hT hdT)).trans hT
  have b2 : B'.StaysIn h2 := fun b o e => (hs2.2 b fun q => by rw [q, hB3] at e; cases e).trans (b1 b o e)
  have f2' : h2.FunFrames B' (X.env :: X.outer) := Heap.FunFrames.sameBut hs2 hn2 ff
  unfold PySem.passOn
  refine wpAny_bind (wpAny_field he2 hd h1 ?_)
  rw [if_neg (show ¬ ((Value.ref T == Value.none) = true) from by simp), hcf, hf]
  refine wpAny_bind (HandSPX.setFlight_onZ (l := X.env :: X.outer) ⟨b2, b0, f2', oe, vs, T, oT, ts, he2, hz, hd, h1, hnT, hTe, hT2, hdT, h3⟩ fun h3' held3 up3 => ?_)
  refine wpAny_throw ?_
  obtain ⟨G, g1, g2⟩ := restrict s1.heap fun b => (B'.get? b).isSome || decide (b ∈ frs X.stack)
  have st : B'.StaysIn s1.heap := fl'.1
  have gB : ∀ b o, B'.get? b = some o → G.get? b = some o := fun b o e => by
    rw [g1 b (by simp [e])]
    exact st b o e
  have gF : ∀ b, b ∈ frs X.stack → G.get? b = s1.heap.get? b := fun b hb => g1 b (by simp [hb])
  have og : ∀ b o, G.get? b = some o → s1.heap.get? b = some o ∧ ((B'.get? b).isSome = true ∨ b ∈ frs X.stack) := fun b o e => by
    cases q : ((B'.get? b).isSome || decide (b ∈ frs X.stack)) with
    | false => rw [g2 b q] at e; cases e
    | true =>
      rw [g1 b q] at e
      exact ⟨e, by simpa [Bool.or_eq_true] using q⟩
  have held4 : HandSPX.HeldZ B' X.stack a (Zc cls d) X.env.locals h3' := by rw [hstk]; exact held3
  have ltC : ∀ b o, sc.heap.get? b = some o → b ≠ ce.locals := fun b o e => Nat.ne_of_lt (Nat.lt_of_lt_of_le (Heap.lt_size e) hsz)
  refine tk _ _ ⟨a, B', { sc with heap := G, gens := s1.gens, drawn := s1.drawn, toks := s1.toks }, pins, σ, H', cls, d, rfl, ?_, fun b o e hb => ?_, fun b o e hnf => ?_, .inr (.inr held4), na, os, ag, hW _ _ _ hE⟩
  · have hokB : HOk X.prog X.w H' B' := fun b o q => (hok b o q).stay (fun c u hc r => hB2 c u (fun z => by
      rcases hc with hc | hc
      · rw [← hc, z, hnC] at q; cases q
      · rw [z, hnC] at hc; cases hc) r) (fun _ r => r) fun _ _ r => r
    refine I.call (ch := []) ⟨fun b o e n hb _ => gB b o (hB2 b o (ltC b o e) (ub.keep b o e n hb)), fun b o e n hb _ => ?_, fun b o e n _ => ub.free b o e n, fun b o e _ => ?_, ub.tups, ub.frzs, ub.tbls⟩ (hokB.kept gB) ag (fun _ z => nomatch z)
    · obtain ⟨sl, q⟩ := ub.slot b o e hb
      exact ⟨sl, by rw [gF b hb]; exact q⟩
    · by_cases hb : b ∈ frs X.stack
      · obtain ⟨sl, q⟩ := ub.slot b o e hb
        exact ⟨_, by rw [gF b hb]; exact q⟩
      · obtain ⟨o', q⟩ := ub.there b o e hb
        exact ⟨o', gB b o' (hB2 b o' (ltC b o e) q)⟩
  · obtain ⟨e', h⟩ := og b o e
    rcases h with h | h
    · obtain ⟨o', q⟩ := Option.isSome_iff_exists.mp h
      have z := st b o' q
      rw [e'] at z; cases z
      exact q
    · exact absurd h hb
  · obtain ⟨e', h⟩ := og b o e
    have bC : b ≠ ce.locals := fun z => by
      rw [z] at h
      rcases h with h | h
      · rw [hB3] at h; cases h
      · exact hC h
    obtain ⟨sl, e1⟩ := up b o e' hnf
    have e2 : h2.get? b = some { o with slots := sl } := (hs2.2 b bC).trans e1
    obtain ⟨sl', e3⟩ := up3 b _ e2 hnf
    exact ⟨sl', e3⟩
end L2

/-! G7 -/
/-! ### [.. for x in g(..)] -/
namespace L2
open PySem PySem.Spec PyProof.Rows GenW
/-- the consumer's list, by its object -/
def IsAcc (o : Option Obj) (acc : List V) : Prop := ∃ (its : List Value) (n : Nat), o = some { cls := .type "list", data := .seq its.toArray n } ∧ Vals acc its ∧ acc.length ≤ sizeLine
/-- one step of the comprehension: its heap holds the list at D and all that the generator tracks -/
def LcStep (te : TE) (σ : St) (i : Nat) (Pv : Nat → List V → Hp → Prop) (k : Nat) (acc : List V) (x : V) (H : Hp) : Prop :=
  acc.length < sizeLine ∧ ∀ D Hc, H D = none → Hc D = some (.lst acc) → (∀ b o, H b = some o → Hc b = some o) → te ((σ.set i none).set i (some x)) Hc fun y H4 => (∀ b o, Hc b = some o → H4 b = some o) ∧
    ∀ H', (∀ b o, H b = some o → H' b = some o) → (∀ b o, Hc b = none → H4 b = some o → H' b = some o) → Pv (k + 1) (acc ++ [y]) H'
/-- Pv: by the number of items, the list so far, the heap -/
def cwOf (Pv : Nat → List V → Hp → Prop) : Gh → Hp → Prop := fun g H => ∃ acc, IsAcc g.2 acc ∧ Pv g.1 acc H
def ywOf (te : TE) (σ : St) (i : Nat) (Pv : Nat → List V → Hp → Prop) : Gh → V → Hp → Prop := fun g x H => ∃ acc, IsAcc g.2 acc ∧ LcStep te σ i Pv g.1 acc x H
def qwOf (Q : VK) : Gh → Hp → Prop := fun g H => ∃ acc, IsAcc g.2 acc ∧ ∀ D, H D = none → Q (.ref D) (upd H D (.lst acc))
def tLcg (tg : TGq) (te : TE) (i : Nat) : TE := fun σ H Q => ∃ Pv : Nat → List V → Hp → Prop, tg σ H (Pv 0 []) (cwOf Pv) (ywOf te σ i Pv) (qwOf Q)

/-- the consumer's heap where an item comes: the generator's, the list, all else of ours as it stands -/
def hcOf (H : Hp) (D C : Addr) (acc : List V) (H1 : Hp) (hs hn : Heap) : Hp := fun b => match H b with
  | some o => some o
  | none => if b = D then some (.lst acc) else if b = C then none else if ((hs.get? b).isSome && (H1 b).isNone) = true then none else (hn.get? b).map fun o => .ext fun h => h.get? b = some o
theorem hcOf_some {H : Hp} {D C : Addr} {acc : List V} {H1 : Hp} {hs hn : Heap} {b : Addr} {o : HO} (e : H b = some o) : hcOf H D C acc H1 hs hn b = some o := by unfold hcOf; rw [e]
theorem hcOf_D {H : Hp} {D C : Addr} {acc : List V} {H1 : Hp} {hs hn : Heap} (e : H D = none) : hcOf H D C acc H1 hs hn D = some (.lst acc) := by unfold hcOf; rw [e]; simp
theorem hcOf_C {H : Hp} {D C : Addr} {acc : List V} {H1 : Hp} {hs hn : Heap} (e : H C = none) (h : C ≠ D) : hcOf H D C acc H1 hs hn C = none := by unfold hcOf; rw [e]; simp [h]
theorem hcOf_old {H : Hp} {D C : Addr} {acc : List V} {H1 : Hp} {hs hn : Heap} {b : Addr} {o : Obj} (e : H b = none) (h : b ≠ D) (h1 : hs.get? b = some o) (h2 : H1 b = none) : hcOf H D C acc H1 hs hn b = none := by
  unfold hcOf; rw [e]; simp [h, h1, h2]
theorem hcOf_ext {H : Hp} {D C : Addr} {acc : List V} {H1 : Hp} {hs hn : Heap} {b : Addr} {o : Obj} (e : H b = none) (h : b ≠ D) (hc : b ≠ C) (h1 : ¬ (∃ o, hs.get? b = some o ∧ H1 b = none)) (h2 : hn.get? b = some o) :
    hcOf H D C acc H1 hs hn b = some (.ext fun h => h.get? b = some o) := by
  have q : ((hs.get? b).isSome && (H1 b).isNone) = false := by
    cases a : hs.get? b with
    | none => rfl
    | some o' =>
      cases c : H1 b with
      | none => exact absurd ⟨o', a, c⟩ h1
      | some _ => rfl
  unfold hcOf; rw [e]; simp [h, hc, q, h2]
/-- what stands at an address of it -/
theorem hcOf_cases {H : Hp} {D C : Addr} {acc : List V} {H1 : Hp} {hs hn : Heap} {b : Addr} {u : HO} (e : hcOf H D C acc H1 hs hn b = some u) :
    H b = some u ∨ (H b = none ∧ b = D ∧ u = .lst acc) ∨ (H b = none ∧ b ≠ D ∧ b ≠ C ∧ ∃ o, hn.get? b = some o ∧ u = .ext fun h => h.get? b = some o) := by
  unfold hcOf at e
  cases q : H b with
  | some o => rw [q] at e; exact .inl e
  | none =>
    rw [q] at e
    dsimp only at e
    by_cases hD : b = D
    · rw [if_pos hD] at e
      exact .inr (.inl ⟨rfl, hD, (Option.some.inj e).symm⟩)
    · rw [if_neg hD] at e
      by_cases hC : b = C
      · rw [if_pos hC] at e; cases e
      · rw [if_neg hC] at e
        split at e
        · cases e
        · cases z : hn.get? b with
          | none => rw [z] at e; cases e
          | some o =>
            rw [z] at e
            exact .inr (.inr ⟨rfl, hD, hC, o, rfl, (Option.some.inj e).symm⟩)
theorem hcOf_ok {P : Program} {w : World} {H : Hp} {D C : Addr} {acc : List V} {H1 : Hp} {hs hn : Heap} (ok : HOk P w H hn) (hD : H D = none) (ha : ∃ (its : List Value) (n : Nat), hn.get? D = some { cls := .type "list", data := .seq its.toArray n } ∧ Vals acc its ∧ acc.length ≤ sizeLine) : HOk P w (hcOf H D C acc H1 hs hn) hn := fun b u e => by
  rcases hcOf_cases e with q | ⟨_, q1, q2⟩ | ⟨q0, q1, q2, o, q3, q4⟩
  · refine (ok b u q).stay (fun _ _ _ r => r) (fun c r => hcOf_some r) fun c xs r => hcOf_some r
  · subst q1 q2
    obtain ⟨its, n, h1, h2, h3⟩ := ha
    exact ⟨h3, its, n, h2, h1⟩
  · subst q4
    exact ⟨q3, ⟨o, q3⟩, fun h1 h2 x k => k o x⟩

/-- what the generator finds when it is woken -/
def hwOf (H : Hp) (hn : Heap) (H4 : Hp) : Hp := fun b => match H b with
  | some o => some o
  | none => if (hn.get? b).isSome = true then none else H4 b
theorem hwOf_some {H H4 : Hp} {hn : Heap} {b : Addr} {o : HO} (e : H b = some o) : hwOf H hn H4 b = some o := by unfold hwOf; rw [e]
theorem hwOf_old {H H4 : Hp} {hn : Heap} {b : Addr} {o : Obj} (e : H b = none) (h : hn.get? b = some o) : hwOf H hn H4 b = none := by unfold hwOf; rw [e]; simp [h]
theorem hwOf_new {H H4 : Hp} {hn : Heap} {b : Addr} (e : H b = none) (h : hn.get? b = none) : hwOf H hn H4 b = H4 b := by unfold hwOf; rw [e]; simp [h]
theorem hwOf_cases {H H4 : Hp} {hn : Heap} {b : Addr} {u : HO} (e : hwOf H hn H4 b = some u) : H b = some u ∨ (H b = none ∧ hn.get? b = none ∧ H4 b = some u) := by
  cases q : H b with
  | some o => rw [hwOf_some q] at e; exact .inl e
  | none =>
    cases z : hn.get? b with
    | some o => rw [hwOf_old q z] at e; cases e
    | none => rw [hwOf_new q z] at e; exact .inr ⟨rfl, rfl, e⟩

section
variable {X : Cx} {pins : List (Addr × Obj)} {σ σ8 : St} {H1 H' H4 : Hp} {sc s1 s9 : Shared} {scope : Scope} {ce : Env} {D : Addr} {acc acc2 : List V}
/-- behind a step of the consumer the generator has slept -/
theorem slp_of (I : Inv X pins σ H1 sc) (un1 : Un (frs X.stack) [] H1 H' sc.heap s1.heap) (ok1 : HOk X.prog X.w H' s1.heap) (os1 : s1.os = sc.os) (hD : H' D = none) (hC : H' ce.locals = none) (hDC : D ≠ ce.locals) (hcs : ce.locals ∉ frs X.stack) (eD : ∃ o, s1.heap.get? D = some o) (eC : ∃ o, s1.heap.get? ce.locals = some o)
    (J : Inv (X.blk sc H1 scope ce []) [] σ8 (upd H4 D (.lst acc2)) s9) (keep : ∀ b o, hcOf H' D ce.locals acc H1 sc.heap s1.heap b = some o → b ≠ D → H4 b = some o) :
    Slp X.prog X.w (frs X.stack) [D, ce.locals] H' (hwOf H' s1.heap H4) s1 s9 ∧ (∀ b o, hcOf H' D ce.locals acc H1 sc.heap s1.heap b = none → upd H4 D (.lst acc2) b = some o → hwOf H' s1.heap H4 b = some o) := by
  have fr : (X.blk sc H1 scope ce []).fs = frs X.stack := rfl
  have nIn : ∀ {b}, b ∉ [D, ce.locals] → b ≠ D ∧ b ≠ ce.locals := fun h => ⟨fun z => h (by simp [z]), fun z => h (by simp [z])⟩
  -- untracked there, standing there: untracked behind
  have none4 : ∀ b o, s1.heap.get? b = some o → hcOf H' D ce.locals acc H1 sc.heap s1.heap b = none → upd H4 D (.lst acc2) b = none := fun b o e n => by
    have hb : b ≠ D := fun z => by rw [z, hcOf_D hD] at n; cases n
    cases q : H' b with
    | some u => rw [hcOf_some q] at n; cases n
    | none =>
      by_cases hc : b = ce.locals
      · rw [hc]; exact J.free
      · by_cases ho : ∃ o, sc.heap.get? b = some o ∧ H1 b = none
        · obtain ⟨o1, e1, n1⟩ := ho
          exact J.base.free b o1 e1 n1 (fun z => nomatch z)
        · rw [hcOf_ext q hb hc ho e] at n; cases n
  have keptAt : ∀ b o, s1.heap.get? b = some o → H' b = none → b ∉ frs X.stack → b ≠ D → b ≠ ce.locals → s9.heap.get? b = some o := fun b o e n hf hb hc => by
    by_cases ho : ∃ o, sc.heap.get? b = some o ∧ H1 b = none
    · obtain ⟨o1, e1, n1⟩ := ho
      have a1 := un1.keep b o1 e1 n1 hf (fun z => nomatch z)
      rw [e] at a1; cases a1
      exact J.base.keep b _ e1 n1 hf (fun z => nomatch z)
    · have z := keep b _ (hcOf_ext n hb hc ho e) hb
      have z2 : upd H4 D (.lst acc2) b = some (.ext fun h => h.get? b = some o) := by rw [upd_ne hb]; exact z
      exact (J.hok b _ z2).1
  have slotAt : ∀ b o, s1.heap.get? b = some o → b ∈ frs X.stack → ∃ sl, s9.heap.get? b = some { o with slots := sl } := fun b o e hf => by
    obtain ⟨_, o1, e1, _⟩ := I.stack.mem hf
    have n1 := I.stkFree b hf
    obtain ⟨sl1, a1⟩ := un1.slot b o1 e1 n1 hf (fun z => nomatch z)
    rw [e] at a1; cases a1
    obtain ⟨sl2, a2⟩ := J.base.slot b o1 e1 n1 hf (fun z => nomatch z)
    exact ⟨sl2, a2⟩
  have tr4 : ∀ b u, H' b = some u → H4 b = some u := fun b u e => keep b u (hcOf_some e) fun z => by rw [z, hD] at e; cases e
  have hok : HOk X.prog X.w (hwOf H' s1.heap H4) s9.heap := fun b u e => by
    have e4 : upd H4 D (.lst acc2) b = some u := by
      rcases hwOf_cases e with q | ⟨q1, q2, q3⟩
      · rw [upd_ne fun z => by rw [z, hD] at q; cases q]; exact tr4 b u q
      · obtain ⟨o, eo⟩ := eD
        rw [upd_ne fun z => by rw [z, eo] at q2; cases q2]; exact q3
    have toW : ∀ c v, upd H4 D (.lst acc2) c = some v → (∀ φ, v ≠ .ext φ) → (∀ l, v ≠ .lst l) → hwOf H' s1.heap H4 c = some v := fun c v ec nx nl => by
      have hc : c ≠ D := fun z => by rw [z, upd_same] at ec; cases ec; exact nl _ rfl
      cases q : H' c with
      | some o =>
        have e5 := tr4 c o q
        rw [upd_ne hc, e5] at ec; cases ec
        exact hwOf_some q
      | none =>
        cases z : s1.heap.get? c with
        | none => rw [hwOf_new q z]; rw [upd_ne hc] at ec; exact ec
        | some o =>
          cases y : hcOf H' D ce.locals acc H1 sc.heap s1.heap c with
          | none => rw [none4 c o z y] at ec; cases ec
          | some v' =>
            have e5 := keep c v' y hc
            rw [upd_ne hc, e5] at ec; cases ec
            rcases hcOf_cases y with y1 | ⟨_, y1, _⟩ | ⟨_, _, _, o', _, y1⟩
            · rw [q] at y1; cases y1
            · exact absurd y1 hc
            · exact absurd y1 (nx _)
    exact (J.hok b u e4).stay (fun _ _ _ r => r) (fun c r => toW c _ r (fun _ z => by cases z) (fun _ z => by cases z)) fun c xs r => toW c _ r (fun _ z => by cases z) (fun _ z => by cases z)
  refine ⟨⟨J.os.trans os1.symm, J.bare, ⟨fun b o e n hf hx => ?_, fun b o e n hf _ => slotAt b o e hf, fun b o e n _ => hwOf_old n e, fun b o e hx => ?_, fun b xs e => hwOf_some e, fun b o xs e => hwOf_some e, fun b ps e => ⟨#[], by rw [hwOf_some e]; simp⟩⟩, hok, fun b o e => hwOf_some e, fun b hb => ?_⟩, fun b o n e => ?_⟩
  · obtain ⟨h1, h2⟩ := nIn hx
    exact keptAt b o e n hf h1 h2
  · obtain ⟨h1, h2⟩ := nIn hx
    cases q : H' b with
    | some u => exact (hok b u (hwOf_some q)).there
    | none =>
      by_cases hf : b ∈ frs X.stack
      · obtain ⟨sl, z⟩ := slotAt b o e hf; exact ⟨_, z⟩
      · exact ⟨o, keptAt b o e q hf h1 h2⟩
  · rcases List.mem_cons.mp hb with z | z
    · subst z
      obtain ⟨o, eo⟩ := eD
      obtain ⟨_, its, n, _, e2⟩ := J.hok b _ upd_same
      exact ⟨hwOf_old hD eo, _, e2, fun v q => by cases q⟩
    · have z : b = ce.locals := List.mem_singleton.mp z
      subst z
      obtain ⟨o, eo⟩ := eC
      obtain ⟨m, ⟨o2, es, ep, e2, ed, _⟩, _⟩ := J.loc
      exact ⟨hwOf_old hC eo, o2, e2, fun v q => by rw [ed] at q; cases q⟩
  · have hb : b ≠ D := fun z => by rw [z, hcOf_D hD] at n; cases n
    have q : H' b = none := by
      cases q : H' b with
      | none => rfl
      | some u => rw [hcOf_some q] at n; cases n
    cases z : s1.heap.get? b with
    | some o' => rw [none4 b o' z n] at e; cases e
    | none => rw [hwOf_new q z]; rw [upd_ne hb] at e; exact e
end
end L2

/-! G8 -/
/-! ### the rule -/
namespace L2
open PySem PySem.Spec PyProof.Rows GenW
theorem pushCells_none : ∀ {names : List (Str × NameKind)} {h : Heap}, (∀ y ∈ names, y.2 ≠ .cell) → pushCells h names = h
  | [], _, _ => rfl
  | (n, k) :: r, h, hc => by
    have hk : k ≠ .cell := hc (n, k) List.mem_cons_self
    unfold pushCells
    rw [if_neg (by simpa using hk)]
    exact pushCells_none fun y hy => hc y (List.mem_cons_of_mem _ hy)
theorem cellsFrom_none {n : Nat} : ∀ {names : List (Str × NameKind)} {acc : List (Str × Addr)}, (∀ y ∈ names, y.2 ≠ .cell) → cellsFrom n names acc = acc
  | [], _, _ => rfl
  | (m, k) :: r, acc, hc => by
    have hk : k ≠ .cell := hc (m, k) List.mem_cons_self
    unfold cellsFrom
    rw [if_neg (by simpa using hk)]
    exact cellsFrom_none fun y hy => hc y (List.mem_cons_of_mem _ hy)
section
variable {X : Cx}
theorem pe_lcg {k i : Nat} {x : Str} {px : Pos} {elt iter : Expr} {scope : Scope} {pos : Pos} {tg : TGq} {te : TE} {E : St → XK} {Wx : WX} (hc : X.calm = true) (hN : X.N.Nodup) (hstk : X.stack = X.env :: X.outer) (hf : X.env.frame = some X.env.locals) (hroom : Room (k + 1) X.A)
    (hi : PGq X k iter tg E) (tk : Takes X Wx) (hW : ∀ cls d σ H, E σ cls d H → Wx cls d σ H) (hns : ∀ σ, NoStop X.K (E σ)) (ok : BlkOk X.N X.env.scope scope [(x, i)]) (hcell : ∀ y ∈ scope.names, y.2 ≠ .cell) (hx : scope.names.lookup x = some .local)
    (he : ∀ (s : Shared) (H : Hp) (C : Addr) (cl : List (Str × Addr)), PEg (X.blk s H scope (compEnvC scope cl C X.env) []) elt te) (hs : ∀ x, foldedSetIterable iter X.env x = pure x := by intro _; rfl) :
    PE X (.ListComp elt [⟨.Name x px, iter, [], 0⟩] scope pos) (tLcg tg te i) := by
  refine ⟨fun pins s σ H Q I h => ?_⟩
  have hfree : ∀ y ∈ scope.names, y.2 = .free → ∃ c, X.env.cells.lookup y.1 = some c := fun y hy e => by
    rcases ok.free y hy e with k | k
    · exact I.ok.has _ (.inl k)
    · exact I.ok.has _ (.inr k)
  rw [eval_ListComp]
  obtain ⟨Pv, h⟩ := h
  refine comprehension_at (use := none) rfl hs (closure_ok hfree) ok.kind (fun y hy e => by rw [ok.uniq y hy, e]) (thn (hi.run pins s σ H _ _ _ _ I h) fun xv s1 hq => ?_)
  obtain ⟨H1, sc, I1, p0, a, gi, c, rfl, ha1, ha2, hg, hgs, hos, hba, hl, hkp, wake⟩ := hq
  refine wpAny_pyIter_gen hg (wpAny_newObj_type (newEnv_comp ?_) (by show 0 ≤ sizeLine; decide))
  generalize hD : s1.heap.objs.size = D
  have Is1 : Inv X pins σ H1 s1 := I1.call' (ch := []) hos (Un.kept hkp) (I1.hok.kept hkp) hba fun b z => nomatch z
  generalize hs3 : ({ s1 with heap := s1.heap.push { cls := .type "list", data := .seq ([] : List Value).toArray } } : Shared) = s3
  have h3 : s3.heap = s1.heap.push { cls := .type "list", data := .seq ([] : List Value).toArray } := by rw [← hs3]
  have I3 : Inv X pins σ (upd H1 D (.lst [])) s3 := by
    rw [← hs3]
    refine Is1.laid (t' := s1.toks) (fun b o e => Heap.get?_push_of_some _ e) (Nat.le_of_eq hD) ⟨Nat.zero_le _, [], 0, .nil, ?_⟩
    rw [← hD]
    exact Heap.get?_push_size _ rfl
  have I4 := block_start (fp := []) (own := [(x, i)]) I3 ok hN (fun b z => nomatch z)
  show codeAny _ _ (.compStart (.ListComp elt [⟨.Name x px, iter, [], 0⟩] scope pos) 0 (.ref a) (.ref D) (compEnvC scope (cellsFrom (s3.heap.objs.size + 1) scope.names (cloFrom X.env.cells scope.names [])) s3.heap.objs.size X.env))
    (compEnds (model X.prog X.w) X.A X.xe none (EP X pins σ Q) (.ref D) (compEnvC scope (cellsFrom (s3.heap.objs.size + 1) scope.names (cloFrom X.env.cells scope.names [])) s3.heap.objs.size X.env)) { s3 with heap := pushCells (s3.heap.push { cls := .type "dict", data := .dict #[] }) scope.names }
  have pe := fun C cl => he sc H1 C cl
  have hcl : ∀ y c, (cellsFrom (s3.heap.objs.size + 1) scope.names (cloFrom X.env.cells scope.names [])).lookup y = some c → H1 c = none ∧ ∃ o, sc.heap.get? c = some o := fun y c e => by
    rw [cellsFrom_none hcell] at e
    rcases cloFrom_mem (PySem.mem_of_lookup e) with z | ⟨z, rfl⟩
    · cases z
    · obtain ⟨c', hc'⟩ := hfree _ z rfl
      rw [hc']
      obtain ⟨v, o, ho, _⟩ := I1.cell _ _ hc'
      exact ⟨I1.freeC _ _ hc', o, ho⟩
  have pec := pe s3.heap.objs.size (cellsFrom (s3.heap.objs.size + 1) scope.names (cloFrom X.env.cells scope.names []))
  generalize hce : compEnvC scope (cellsFrom (s3.heap.objs.size + 1) scope.names (cloFrom X.env.cells scope.names [])) s3.heap.objs.size X.env = ce at I4 pec ⊢
  have hclC : ∀ y c, ce.cells.lookup y = some c → H1 c = none ∧ ∃ o, sc.heap.get? c = some o := fun y c e => hcl y c (by rw [← hce] at e; exact e)
  have hcf : ce.frame = X.env.frame := by rw [← hce]; rfl
  have cL : ce.locals = s3.heap.objs.size := by rw [← hce]; rfl
  have hlk : ce.scope.names.lookup x = some .local := by rw [← hce]; exact lookup_relabel_local hx
  generalize hs4 : ({ s3 with heap := pushCells (s3.heap.push { cls := .type "dict", data := .dict #[] }) scope.names } : Shared) = s4 at I4 ⊢
  have k34 : ∀ b o, s3.heap.get? b = some o → s4.heap.get? b = some o := fun b o e => by rw [← hs4]; exact pushCells_keeps _ _ _ _ (Heap.get?_push_of_some _ e)
  have k13 : ∀ b o, s1.heap.get? b = some o → s3.heap.get? b = some o := fun b o e => by rw [h3]; exact Heap.get?_push_of_some _ e
  have kc4 : ∀ b o, sc.heap.get? b = some o → s4.heap.get? b = some o := fun b o e => k34 b o (k13 b o (hkp b o e))
  have szc1 : sc.heap.objs.size ≤ s1.heap.objs.size := Nat.le_of_lt (Nat.lt_of_le_of_lt ha1 ha2)
  have sz13 : s1.heap.objs.size < s3.heap.objs.size := by rw [h3, Heap.size_push]; exact Nat.lt_succ_self _
  have hDsc : sc.heap.objs.size ≤ D := by rw [← hD]; exact szc1
  have eD4 : s4.heap.get? D = some { cls := .type "list", data := .seq ([] : List Value).toArray } := k34 _ _ (by rw [h3, ← hD]; exact Heap.get?_push_size _ rfl)
  have hDC : D ≠ ce.locals := by rw [cL, ← hD]; exact Nat.ne_of_lt sz13
  have hCsc : sc.heap.objs.size ≤ ce.locals := by rw [cL]; exact Nat.le_trans szc1 (Nat.le_of_lt sz13)
  have hcs : ce.locals ∉ frs X.stack := fun z => by
    obtain ⟨_, o, ho, _⟩ := I3.stack.mem z
    rw [cL] at ho
    exact absurd (Heap.lt_size ho) (Nat.lt_irrefl _)
  have aD : a ≠ D := by rw [← hD]; exact Nat.ne_of_lt ha2
  have aC : a ≠ ce.locals := by rw [cL]; exact Nat.ne_of_lt (Nat.lt_trans ha2 sz13)
  have IB : Inv (X.blk sc H1 scope ce []) [] (wipe σ ([(x, i)].map (·.2))) (upd H1 D (.lst [])) s4 := blk_base I1 (Nat.le_trans szc1 (Nat.le_of_lt sz13)) I4 (by rw [← hs4, ← hs3]; exact hos) (Un.laid kc4 hDsc (I1.hok.fresh hDsc))
  have gty : s4.heap.IsGen a gi := hg.keeps fun b o e => k34 b o (k13 b o e)
  have g4 : s4.gens = s1.gens := by rw [← hs4, ← hs3]
  have o4 : s4.os = sc.os := by rw [← hs4, ← hs3]; exact hos
  obtain ⟨m4, hn4, _⟩ := id IB.loc
  have hn4 : s4.heap.Ns ce.locals m4 := hn4
  have hrA : X.A.in1.frames = some X.stack := I1.ok.frames
  -- the loop
  have goes : ∀ {gs : GenState} {B : Around} {n : Nat} {r : Resume} {s : Shared}, gs.Goes (model X.prog X.w) B (GsEnd X.prog X.w X.stack H1 sc a gi ⟨D, [D, ce.locals], cwOf Pv, ywOf te σ i Pv⟩ s4 (qwOf Q) (E σ)) (GsItem X.prog X.w X.stack H1 sc a gi ⟨D, [D, ce.locals], cwOf Pv, ywOf te σ i Pv⟩) n r s →
      gs.Goes (model X.prog X.w) B (fun n s₀ r s1 => ((r = .ok (.ret .none) ∨ r = .ok .next) ∧ (∃ g H', n + g.1 = sizeLine ∧ g.2 = s₀.heap.get? D ∧ s1.os = sc.os ∧ AllBare s1.gens ∧ Un (frs X.stack) [] H1 H' sc.heap s1.heap ∧ HOk X.prog X.w H' s1.heap ∧ (∀ b ∈ [D, ce.locals], H' b = none ∧ s1.heap.get? b = s₀.heap.get? b) ∧ qwOf Q g H')) ∨
        ∃ e, r = .error e ∧ (CX X.prog X.w X.stack H1 sc (fun cls d H' => E σ cls d H' ∧ ∀ b ∈ [D, ce.locals], H' b = none) e s1 ∧ s1.heap.IsGen a gi ∧ ∀ b ∈ [D, ce.locals], s1.heap.get? b = s4.heap.get? b)) (GsItem X.prog X.w X.stack H1 sc a gi ⟨D, [D, ce.locals], cwOf Pv, ywOf te σ i Pv⟩) n r s := fun h => h
  have mD : D ∈ [D, ce.locals] := List.mem_cons_self
  have mC : ce.locals ∈ [D, ce.locals] := List.mem_cons_of_mem _ (List.mem_singleton.mpr rfl)
  have hLoop : codeAny (model X.prog X.w) X.A (.compLoop (.ListComp elt [⟨.Name x px, iter, [], 0⟩] scope pos) 0 (.ref a) (.ref D) ce) (compEnds (model X.prog X.w) X.A X.xe none (EP X pins σ Q) (.ref D) ce) s4 := by
    refine compLoop_any (fun n s' => ∃ Hz gs, Inv (X.blk sc H1 scope ce []) [] (wipe σ ([(x, i)].map (·.2))) Hz s' ∧ s'.heap.IsGen a gi ∧ s'.gens[gi]? = some gs ∧
      gs.Goes (model X.prog X.w) X.A.in1 (GsEnd X.prog X.w X.stack H1 sc a gi ⟨D, [D, ce.locals], cwOf Pv, ywOf te σ i Pv⟩ s4 (qwOf Q) (E σ)) (GsItem X.prog X.w X.stack H1 sc a gi ⟨D, [D, ce.locals], cwOf Pv, ywOf te σ i Pv⟩) n (.send .none) (s'.setGen gi .running)) ?_ sizeLine ⟨_, .fresh c, IB, gty, by rw [g4]; exact hgs, rfl, ?_⟩
    rotate_left
    · refine wake X.A.in1 D [D, ce.locals] (s4.setGen gi .running) hroom.in1 hrA (fun S hS => ?_) (fun b o e => k34 b o (k13 b o e)) o4 (allBare_setGen (by rw [g4]; exact hba) rfl) ⟨[], ⟨[], 0, eD4, .nil, Nat.zero_le _⟩, p0⟩
      rcases List.mem_cons.mp hS with z | z
      · subst z
        exact ⟨Nat.le_of_eq hD, _, eD4, fun v q => by cases q⟩
      · have z : S = ce.locals := List.mem_singleton.mp z
        subst z
        obtain ⟨oC, es, ep, eC, edC, _⟩ := hn4
        exact ⟨by rw [cL]; exact Nat.le_of_lt sz13, oC, eC, fun v q => by rw [edC] at q; cases q⟩
    rintro n s5 ⟨Hz, gs, J5, hg5, hgs5, hgo⟩
    have hgl : gi < s5.gens.size := (Array.getElem?_eq_some_iff.mp hgs5).1
    obtain ⟨m5, hn5, _⟩ := id J5.loc
    have hn5 : s5.heap.Ns ce.locals m5 := hn5
    obtain ⟨oC5, esC, epC, eC5, edC, _⟩ := id hn5
    refine wpAny_gsz (n := gi + 1) hgl (next_genG (A := X.A) hroom.hd J5.nolimit (by have := hroom.dp; omega) hg5 hgs5 (goes hgo) (fun v s6 gs6 hbare hv => ?_) (fun s6 hp h' hk => ?_) fun e s6 he6 => ?_)
    · intro hsz
      obtain ⟨g, xv, H', hn6, hg6, rv, os6, ba6, nl6, ig6, ⟨na6, fa6⟩, un6, ok6, ts6, ⟨acc, hacc, hlt, hstep⟩, kap⟩ := hv
      obtain ⟨nD6, eD6⟩ := ts6 D mD
      obtain ⟨nC6, eC6⟩ := ts6 ce.locals mC
      have eD6 : s6.heap.get? D = s5.heap.get? D := eD6
      have eC6 : s6.heap.get? ce.locals = s5.heap.get? ce.locals := eC6
      have hg6 : g.2 = s5.heap.get? D := hg6
      obtain ⟨its, nn, eacc, racc, lacc⟩ := hacc
      rw [hg6, ← eD6] at eacc
      have hsz6 : gi < s6.gens.size := by
        have q : (s6.setGen gi gs6).gens.size = s6.gens.size := setGen_size _ _ _
        have hsz' : gi + 1 ≤ (s6.setGen gi gs6).gens.size := hsz
        omega
      have okc : HOk X.prog X.w (hcOf H' D ce.locals acc H1 sc.heap s6.heap) s6.heap := hcOf_ok ok6 nD6 ⟨its, nn, eacc, racc, lacc⟩
      have unc : Un (frs X.stack) [] H1 (hcOf H' D ce.locals acc H1 sc.heap s6.heap) sc.heap s6.heap :=
        ⟨un6.keep, un6.slot, fun b o e n hx => hcOf_old (un6.free b o e n hx) (fun z => by rw [z] at e; exact absurd (Nat.lt_of_lt_of_le (Heap.lt_size e) hDsc) (Nat.lt_irrefl _)) e n, un6.there, fun b xs e => hcOf_some (un6.tups b xs e), fun b o xs e => hcOf_some (un6.frzs b o xs e), fun b ps e => let ⟨more, q⟩ := un6.tbls b ps e; ⟨more, hcOf_some q⟩⟩
      have J6 : Inv (X.blk sc H1 scope ce []) [] (wipe σ ([(x, i)].map (·.2))) (hcOf H' D ce.locals acc H1 sc.heap s6.heap) (s6.setGen gi gs6) :=
        blk_again J5 hclC os6 (allBare_setGen ba6 hbare) unc okc (fun o e => by show s6.heap.get? ce.locals = some o; rw [eC6]; exact e) (hcOf_C nC6 (Ne.symm hDC))
      refine wpAny_pure ?_
      refine wpAny_assign_Name (store_g (i := i) (v := xv) J6 hN (ok.ix (x, i) (List.mem_singleton.mpr rfl)) hlk rv fun h8 t8 J8 => ?_)
      refine wpAny_tests_nil ?_
      rw [if_pos rfl]
      have q8 := hstep D (hcOf H' D ce.locals acc H1 sc.heap s6.heap) nD6 (hcOf_D nD6) (fun b o e => hcOf_some e)
      refine thnF (pec.run [] _ _ _ _ J8 q8) fun z s9 hz9 => ?_
      obtain ⟨gn9, y, H9, J9, r9, keep9, pv9⟩ := hz9
      refine app_g (X := X.blk sc H1 scope ce []) J9 (keep9 D _ (hcOf_D nD6)) hlt r9 fun h10 J10 => ?_
      obtain ⟨slp, hw⟩ := slp_of (X := X) (s9 := { s9 with heap := h10 }) (acc := acc) I1 un6 ok6 os6 nD6 nC6 hDC hcs ⟨_, eacc⟩ ⟨oC5, by rw [eC6]; exact eC5⟩ J10 (fun b o e _ => keep9 b o e)
      have slp2 : Slp X.prog X.w (frs X.stack) [D, ce.locals] H' (hwOf H' s6.heap H9) s6 (({ s9 with heap := h10 } : Shared).setGen gi .running) :=
        ⟨slp.os, allBare_setGen slp.bare rfl, slp.un, slp.hok, slp.more, slp.ts⟩
      obtain ⟨lz, itz, nz, rz, ez⟩ := J10.hok D _ upd_same
      have hpv : Pv (g.1 + 1) (acc ++ [y]) (hwOf H' s6.heap H9) := pv9 _ (fun b o e => hwOf_some e) fun b o n e => hw b o n (by
        rw [upd_ne fun q => by rw [q, hcOf_D nD6] at n; cases n]; exact e)
      have kp := kap (hwOf H' s6.heap H9) _ slp2 ⟨acc ++ [y], ⟨itz, nz, ez, rz, lz⟩, hpv⟩
      cases n with
      | zero => exact kp.elim
      | succ n =>
        refine ⟨n, Nat.lt_succ_self n, upd H9 D (.lst (acc ++ [y])), gs6, J10.weak (by simp [wipe]) (fun j v e => ?_), ?_, ?_, kp⟩
        · have e : (σ.set i none)[j]? = some (some v) := e
          show ((σ.set i none).set i (some xv))[j]? = some (some v)
          by_cases hj : i = j
          · subst hj
            by_cases hl : i < σ.length
            · rw [List.getElem?_set_self hl] at e; cases e
            · rw [List.getElem?_eq_none (by simpa using hl)] at e; cases e
          · rw [List.getElem?_set_ne hj]; exact e
        · obtain ⟨o, nm, qn, ho, r⟩ := ig6
          exact ⟨o, nm, qn, slp.un.keep a o ho na6 fa6 (fun z => by
            rcases List.mem_cons.mp z with z | z
            · exact aD z
            · exact aC (List.mem_singleton.mp z)), r⟩
        · show s9.gens[gi]? = some gs6
          rw [gn9]
          exact setGen_at hsz6
    · intro hsz
      obtain ⟨g, H', hn6, hg6, os6, ba6, un6, ok6, ts6, acc, hacc, hQ⟩ := hp
      obtain ⟨nD6, eD6⟩ := ts6 D mD
      obtain ⟨nC6, eC6⟩ := ts6 ce.locals mC
      have eD6 : s6.heap.get? D = s5.heap.get? D := eD6
      have eC6 : s6.heap.get? ce.locals = s5.heap.get? ce.locals := eC6
      have hg6 : g.2 = s5.heap.get? D := hg6
      obtain ⟨its, nn, eacc, racc, lacc⟩ := hacc
      rw [hg6, ← eD6] at eacc
      have If : Inv X pins σ (upd H' D (.lst acc)) { s6.setGen gi .finished with heap := h' } :=
        I1.drained (ex := []) (S := D) (acc := its.toArray) (c := nn) hDsc lacc (hk D _ eacc) (by simpa using racc) .nil os6 (allBare_setGen ba6 rfl) (un6.trans (Un.kept hk)) (ok6.kept hk) nD6
      have nC : upd H' D (.lst acc) ce.locals = none := by rw [upd_ne (Ne.symm hDC)]; exact nC6
      refine ⟨m5, hn5.at' fun o e => hk _ _ (by rw [eC6]; exact e), fun h2 sb => ?_⟩
      have fp := I3.fpOk (b := ce.locals) (Nat.le_of_eq cL.symm) nC
      obtain ⟨f0, f1, f2, f3, f4, f5⟩ := fp
      exact ⟨.ref D, upd H' D (.lst acc), If.turned (t' := s6.toks) (fun b o hb e => (sb.2 b hb).trans e) f0 f1 f3 f4 f5, rfl, hQ D nD6⟩
    · obtain ⟨hcx, hg1, hts⟩ := he6
      have kin : X.K.In s6.heap := by
        obtain ⟨ea, B, H', cls, d, _, fl, _, ub, _⟩ := id hcx
        refine I1.ok.mod.kin.keeps fun b o eb => fl.1 b o (ub.keep b o (I1.bs b o eb).1 (I1.bs b o eb).2 fun hm => ?_)
        rcases List.mem_cons.mp (I1.stkSub b hm) with z | z
        · have h1 := Heap.lt_size eb
          have h2 := Nat.le_trans I1.ok.bsz I1.ok.above
          rw [z] at h1
          exact absurd (Nat.lt_of_lt_of_le h1 h2) (Nat.lt_irrefl _)
        · exact I1.ok.nofr eb z
      have hns' : NoStop X.K (fun cls d H' => E σ cls d H' ∧ ∀ b ∈ [D, ce.locals], H' b = none) := fun cls d H' q => hns σ cls d H' q.1
      refine ⟨hg1, notStop_of hns' kin hcx, fun hsz => ?_⟩
      have hcx2 : CX X.prog X.w X.stack H1 sc (fun cls d H' => E σ cls d H' ∧ H' ce.locals = none) e (s6.setGen gi .finished) := by
        obtain ⟨ea, B, H', cls, d, z1, z2, z3, z4, z5, z6, z7, z8, z9⟩ := hcx
        exact ⟨ea, B, H', cls, d, z1, z2, z3, z4, z5, z6, allBare_setGen z7 rfl, z8, z9 _ mC⟩
      exact fails_of (m := m4) I1 tk (fun cls d H => hW cls d σ H) hstk hf hcf hcs hCsc hcx2 (hn4.at' fun o e => by
        show s6.heap.get? ce.locals = some o
        rw [hts _ mC]; exact e)
  exact codeAny_compStart_list hLoop (wpAny_pyIter_gen gty hLoop)
end
end L2

/-! G9 -/
/-! ### expressions that make and wake no generator: fields, list(..), calls -/
namespace L2
open PySem PySem.Spec PyProof.Rows GenW
section
variable {X : Cx} {pins : List (Addr × Obj)} {σ : St} {H : Hp} {s : Shared} {a C dx : Addr} {fs : List (Str × V)} {f : Str} {v : V} {A : Around} {E : Value → Shared → Prop}
theorem getattr_g {b : Bool} {Q : Value → Shared → Prop} (I : Inv X pins σ H s) (e : H a = some (.ins C dx fs)) (c : Cls X.K C) (n : NoAttr X.K C f) (l : fs.lookup f = some v)
    (h : ∀ u t, Inv X pins σ H { s with toks := t } → RelV v u → Q u { s with toks := t }) : wpAny (model X.prog X.w) A (getAttr (.ref a) f b) Q E s := by
  obtain ⟨mA, O, r, _, _, _⟩ := ins_get I.hok e
  obtain ⟨u, hu, ru⟩ := RelO.some_of (v := v) (o := mA f) (by rw [← l]; exact r f)
  exact get_map I.kIn O (c.get f) c.hd n hu (handed_of ru) (h u _ (I.tok _) ru)
end
section
variable {X : Cx} {e o : Expr} {es : List Expr} {f x m : Str} {pos p apos : Pos} {ta : TE} {k : Nat} {C g : Addr} {fd : FuncData} {ps : List Str} {sp : Sp}
theorem pg_fld (he : PEg X e ta) (hb : attributeBase e f X.env (eval e X.env) = eval e X.env) : PEg X (.Attribute e f pos) (tFld X.K ta f) := by
  refine ⟨fun pins s σ H Q I h => ?_⟩
  refine attr_of hb (thn (he.run pins s σ H _ I h) fun u s1 ⟨gn, x, H1, I1, rx, a, C, dx, fs, v, ex, ea, c, n, l, q⟩ => ?_)
  subst ex
  obtain rfl : u = Value.ref a := rx
  exact getattr_g I1 ea c n l fun u' t I2 ru => ⟨gn, v, H1, I2, ru, q⟩
def rLof (K : PySem.W.Frag) : List V → Hp → VK → Prop := fun xs H Q => ∃ p ys, xs = [.ref p] ∧ (SqL K H p ys ∨ SqT K H p ys) ∧ ∀ l, H l = none → Q (.ref l) (upd H l (.lst ys))
/-- list(e) -/
theorem pg_listOf (hg : Gl X x) (hm : X.mg x = none) (hv : bootBuiltins x = some (.type "list")) (ha : PEg X e ta) (hn : x ≠ "__name__" := by decide) (hdb : (x == ("__debug__" : Str)) = false := by decide)
    (he : starEach [e] X.env = (false, eval e X.env) :: starEach [] X.env := by rfl) (hpl : (backTo pos (starEach ([] : List Expr) X.env)).any (·.1) = false := by rfl) : PEg X (.Call (.Name x p) [e] [] pos) (tCB (rLof X.K) (tCons ta tNil)) := by
  refine ⟨fun pins s σ H Q I h => ?_⟩
  refine wpAny_Call_Name_kw (ld_blt I hg hm hv ?_ hn hdb)
  have args : wpAny (model X.prog X.w) X.A (spliced (backTo pos (starEach [e] X.env))) (fun us s1 => s1.gens = s.gens ∧ AP X pins σ (fun vs H1 => rLof X.K vs H1 Q) us s1) X.xe s := by
    rw [he]
    show wpAny _ _ (spliced ((false, eval e X.env) :: backTo pos (starEach [] X.env))) _ _ s
    refine Calls.spliced_cons (thn (ha.run pins s σ H _ I h) fun u s1 ⟨gn, x, H1, I1, r1, q1⟩ => ?_)
    exact Calls.spliced_nil ⟨gn, [x], H1, I1, .cons r1 .nil, q1⟩
  refine PyProof.Rows.callWith_type1 (thn args fun us s1 ⟨gn, vs, H1, I1, r1, pq, ys, ev, hq, q⟩ => ?_) he hpl
  subst ev
  obtain ⟨u, rfl, rx⟩ := vals1 r1
  cases rx
  have fin : ∀ (its : List Value), Vals ys its → ys.length ≤ sizeLine → ∀ (h' : Heap) (c' : Nat), (∀ b o', s1.heap.get? b = some o' → h'.get? b = some o') →
      h'.get? s1.heap.objs.size = some { cls := .type "list", dict := none, data := .seq its.toArray c', slots := #[] } → (fun u s' => s'.gens = s.gens ∧ EP X pins σ Q u s') (.ref s1.heap.objs.size) { s1 with heap := h' } := fun its r' hz h' c' kp e =>
    ⟨gn, .ref s1.heap.objs.size, _, I1.laid (t' := s1.toks) kp (Nat.le_refl _) (show ObjOk X.prog X.w _ h' _ (.lst ys) from ⟨hz, its, c', r', e⟩), rfl, q _ (I1.hok.fresh (Nat.le_refl _))⟩
  rcases hq with hq | hq
  · obtain ⟨its, r', pl, hz⟩ := I1.list hq
    have hlen := r'.length
    obtain ⟨o, ho, hc, n, hd⟩ := pl.isList
    exact call_list_seq pq (.inl rfl) ho hc hd (fun h' c' kp e => fin its r' hz h' c' kp e) (by simp only [List.size_toArray] <;> omega)
  · obtain ⟨its, r', pl, hz⟩ := I1.tuple hq
    have hlen := r'.length
    obtain ⟨o, ho, hc, n, hd⟩ := pl
    exact call_list_seq pq (.inr rfl) ho hc hd (fun h' c' kp e => fin its r' hz h' c' kp e) (by simp only [List.size_toArray] <;> omega)
end
/-- a def that makes and wakes no generator, and raises nothing -/
structure FnOkN (P : Program) (w : World) (K : PySem.W.Frag) (mg : Str → Option Value) (base : Heap) (k : Nat) (f : Addr) (fd : FuncData) (ps : List Str) (sp : Sp) : Prop where
  len : ∀ vs H Q E, sp vs H Q E → vs.length = ps.length
  run : ∀ (A : Around) (outer : List Env) (s : Shared) (H : Hp) (args : Args) (us : List Value) (vs : List V) (Q : VK) (E : XK), Room k A → Env0 P w K mg base A outer s H → BindsTo s fd args (ps.zip us) → Vals vs us → sp vs H Q E →
    codeAny (model P w) A (.call (.ref f) args) (fun r s' => s'.gens = s.gens ∧ CR CX0 outer P w H s Q E r s') s
theorem fnn_ret {P : Program} {w : World} {K : PySem.W.Frag} {mg : Str → Option Value} {base : Heap} {k : Nat} {f : Addr} {name qual : Str} {params : Arguments} {e : Expr} {pos : Pos} {scope : Scope} {dV kV doc pm cdv ct oc : Value} {an od : Option Addr}
    {osl : Array (Option Value)} {N ps : List Str} {sp : Sp} (lk : K.lookup f = some ⟨oc, od, .func (PySem.W.fnOf name qual params [.Return (some e) pos] scope dV kV doc pm an cdv ct), osl⟩) (hcd : PySem.W.codeIn K cdv qual = true) (S : FnScope N ps scope)
    (len : ∀ vs H Q E, sp vs H Q E → vs.length = ps.length)
    (hbody : ∀ (A : Around) (outer : List Env) (s : Shared) (H : Hp) (vs : List V) (Q : VK) (E : XK), Room k (A.deeper (envOfC qual scope s.heap.objs.size f cdv)) → sp vs H Q E →
      ∃ te, PEg (cxOf CX0 P w K mg base N qual scope f cdv A outer s H E).nox e te ∧ te (start N vs) H Q) :
    FnOkN P w K mg base (k + 1) f (PySem.W.fnOf name qual params [.Return (some e) pos] scope dV kV doc pm an cdv ct) ps sp := by
  refine ⟨len, fun A outer s H args us vs Q E hr e0 hb r hsp => ?_⟩
  have hl := len _ _ _ _ hsp
  have KX : K.In s.heap := e0.mod.kin.keeps fun b o e => (e0.bs b o e).1
  have lim : s.heap.NoLimit := e0.mod.nolimit.keeps fun b o e => (e0.bs b o e).1
  have hkind : ∀ y ∈ ps.zip us, scope.names.lookup y.1 = some .local ∨ (scope.names.lookup y.1 = some .cell ∧ ((cellsFrom (s.heap.objs.size + 1) scope.names []).lookup y.1).isSome = true) := fun ⟨n, v⟩ hy => by
    rcases S.par n (List.of_mem_zip hy).1 with q | q
    · exact .inl q
    · exact .inr ⟨q, PySem.W.cellsFrom_some _ _ _ (.inl q)⟩
  refine codeAny_call_function hr.depth (KX _ _ lk) rfl S.co S.gen rfl (PySem.W.codeRec_of KX hcd) (hb _ _ _ _ ?_)
  refine wpAny_newFunctionEnv_cells S.kind hkind fun env he s1 x => ?_
  subst he
  refine ⟨lim.keeps x.toInCall.keep, codeAny_func ?_⟩
  obtain ⟨te, ht, hq⟩ := hbody A outer s H vs Q E (hr.deeper _) hsp
  have I : Inv (cxOf CX0 P w K mg base N qual scope f cdv A outer s H E) [] (start N vs) H s1 := inv_start S hr.hd e0 hl r x
  have g1 : s1.gens = s.gens := by
    obtain ⟨h1, tk, rfl, hk⟩ := x.done
    rfl
  refine wpAny_execs_cons (wpAny_Return_some (wpAny_mono (ht.run [] s1 (start N vs) H _ (I.wish _) hq) (fun u s' ⟨gn, v, H', J, rv, q⟩ => ?_) fun e s' hs => False.elim hs))
  exact ⟨gn.trans g1, v, H', J.os, J.bare, J.base, J.hok, rv, q⟩
section
variable {X : Cx} {e o : Expr} {es : List Expr} {f x m : Str} {pos p apos : Pos} {ta : TE} {k : Nat} {C g : Addr} {fd : FuncData} {ps : List Str} {sp : Sp} {E : XK}
theorem run_fnn {pins : List (Addr × Obj)} {σ : St} {H : Hp} {s : Shared} {Q : VK} {us : List Value} {vs : List V} (F : FnOkN X.prog X.w X.K X.mg X.base k g fd ps sp) (hr : Room k X.A) (hb : Binds X.K fd ps [])
    (I : Inv X pins σ H s) (r : Vals vs us) (h : sp vs H Q E) : wpAny (model X.prog X.w) X.A (call (.ref g) us) (fun u s' => s'.gens = s.gens ∧ EP X pins σ Q u s') X.xe s := by
  have hl : (us ++ ([] : List Value)).length = ps.length := by rw [List.append_nil, ← r.length]; exact F.len _ _ _ _ h
  have b2 := hb s us I.kIn hl
  rw [List.append_nil] at b2
  refine wpAny_call (codeAny_mono (F.run X.A X.stack s H ⟨us, []⟩ us vs Q E hr I.env0 b2 r h) fun r s' hq => ?_)
  cases r with
  | error e => exact hq.2.elim
  | ok fl =>
    cases fl with
    | ret u => exact ⟨hq.1, I.after hq.2⟩
    | next => exact False.elim hq.2
    | brk => exact False.elim hq.2
    | cont => exact False.elim hq.2
/-- o.m() -/
theorem pg_meth0 {pl : Sem Bool} (he : PEg X o ta) (c : Cls X.K C) (hm : Meth X.K C m g) (F : FnOkN X.prog X.w X.K X.mg X.base k g fd ps sp) (hr : Room k X.A) (hb : Binds X.K fd ps [])
    (ht : eval (.Call (.Attribute o m apos) [] [] pos) X.env = (do
      let ov ← eval o X.env
      standAt apos.atName
      let (f, first) ← holding [ov] (getMethod ov m pl)
      callWith pos f first (backTo pos (starEach [] X.env)) (backToKw pos (keywordEach [] X.env))) := by rfl) :
    PEg X (.Call (.Attribute o m apos) [] [] pos) (tMeth C m sp [] E ta tNil) := by
  refine ⟨fun pins s σ H Q I h => ?_⟩
  refine PySem.W.methodCall_KW (pl := pl) (thn (he.run pins s σ H _ I h) fun u s1 ⟨gn, x, H1, I1, rx, a, dx, fs, ex, ea, l, q⟩ => ?_) ht
  subst ex
  obtain rfl : u = Value.ref a := rx
  refine getmeth_ok I1 ea c hm l ?_
  exact PySem.W.callWith_K0 (first := [.ref a]) I1.kIn hm.kp (thn (run_fnn (us := [.ref a]) (vs := [.ref a]) F hr hb I1 (.cons rfl .nil) q) fun u s2 z => ⟨z.1.trans gn, z.2⟩)
end
end L2

/-! K18 -/
/-! ### order: a generator -/
namespace Tr
open PySem PySem.Spec PyProof.Rows L2 Rw GenW
def spOrd (K : PySem.W.Frag) (n : Nat) : SpGs := fun vs H Cw Yw Q _ => ∃ (p : Addr) (xs : List V) (ds : List D), vs = [.ref p] ∧ SqT K H p xs ∧ DpAll K H xs ds ∧ Fits n ds ∧ (∀ d ∈ flat ds, BrOk d) ∧ (flat ds).length ≤ 800 ∧
  (∀ g H1 H2, Same H1 H2 → Cw g H1 → Cw g H2) ∧ (∀ g H1 d x, Same H H1 → Cw g H1 → (flat ds)[g.1]? = some d → Dp K H x d → Yw g x H1) ∧ (∀ g H1, Same H H1 → Cw g H1 → g.1 = (flat ds).length → Q g H1)
section
variable {P : Program} {w : World} {K : PySem.W.Frag} {mg : Str → Option Value} {base : Heap}
abbrev sOrd : Stmt := top 34
theorem scOrd : GScope ["items"] ["items"] (defScope sOrd) := ⟨rfl, rfl, rfl, by decide +kernel, rfl, by decide +kernel, by decide +kernel⟩
theorem ok_order {f fF : Addr} {fd fdF : FuncData} (F : Fun K "order" "order" sOrd f fd) (n : Nat) (GF : FnOk P w K mg base CX0 (n + 2) fF fdF ["items"] (spFlat K n)) (TF : Called K mg "flat" ["items"] fF fdF) : GFns P w K mg base (n + 3) f fd ["items"] (spOrd K n) := by
  obtain ⟨oc, od, kV, doc, pm, an, cdv, ct, osl, rfl, lk, hcd⟩ := F.ex
  refine gfns_of ((defBody sOrd).take 0) ((defBody sOrd).drop 0) (List.take_append_drop 0 _).symm lk hcd scOrd (fun vs H Cw Yw Q E h => ?_) fun A outer s H vs Cw Yw Q E hr h => ?_
  · obtain ⟨p, xs, ds, rfl, _⟩ := h
    rfl
  · obtain ⟨p, xs, ds, rfl, hp, ha, ft, br, hz, qC, qY, qQ⟩ := h
    have hpre : ∀ pn, PSs (gcxOf P w K mg base ["items"] "order" (defScope sOrd) f cdv A outer s H (exE E pn) pn) ((defBody sOrd).take 0) _ := fun pn => pss_nil
    have hrest : ∀ pn D Ts, GTs (gcxOf P w K mg base ["items"] "order" (defScope sOrd) f cdv A outer s H noX pn) ⟨D, Ts, Cw, Yw⟩ ((defBody sOrd).drop 0) _ := fun pn D Ts => (gts_one (gt_yl (pe_call GF (hr.mono (by first | decide | omega)) rfl TF.1 TF.2.1 TF.2.2 .nil pass0 (pa_cons (pv 0) pa_nil)) hr.hd))
    refine ⟨_, _, hpre, hrest, fun D Ts g g0 hC0 => ?_⟩
    refine ⟨_, rfl, H, p, xs, ds, rfl, Same.refl _, hp, ha, ft, br, fun H2 l2 ys s2 n2 h2 hy => ?_⟩
    have ly := dpl hy
    refine ⟨l2, ys, rfl, h2, fun j gh H' => Same H H' ∧ gh.1 = j ∧ Cw gh H', ⟨s2, g0, qC _ _ _ s2 hC0⟩, fun j gh H' x hx sm hP => ?_, fun gh H' sm hP => ?_⟩
    · obtain ⟨s1, e1, c1⟩ := hP
      obtain ⟨d, hd, hx⟩ := dp_get hy hx
      have lt : j < (flat ds).length := (List.getElem?_eq_some_iff.mp hd).1
      refine ⟨by rw [sizeLine_eq]; omega, qY gh H' d x s1 c1 (by rw [e1]; exact hd) hx, fun g' H'' eg s' c' => ⟨s1.trans s', by omega, c'⟩⟩
    · obtain ⟨s1, e1, c1⟩ := hP
      exact qQ gh H' s1 c1 (by omega)
end
end Tr

/-! K19 -/
/-! ### the end is reached -/
namespace Tr
open PySem PySem.Spec PyProof.Rows L2 Rw
theorem dup_lenN : ∀ (l m : List Nat), l.Nodup → (∀ x ∈ l, x ∈ m) → l.length ≤ m.length
  | [], m, _, _ => Nat.zero_le _
  | a :: l, m, nd, h => by
    have nd := List.nodup_cons.mp nd
    have ha := h a List.mem_cons_self
    have e := List.length_erase_of_mem ha
    have ih := dup_lenN l (m.erase a) nd.2 fun x hx => (List.mem_erase_of_ne fun (z : x = a) => nd.1 (by rw [← z]; exact hx)).mpr (h x (List.mem_cons_of_mem _ hx))
    have pos : 0 < m.length := List.length_pos_of_mem ha
    rw [List.length_cons]
    omega
def kNat (n : Nat) : Key := .inl (n : Int)
theorem kNat_inj {a b : Nat} (h : kNat a = kNat b) : a = b := by
  have h : (a : Int) = (b : Int) := Sum.inl.inj h
  omega
/-- the places that the dict at c has for keys -/
def SeenAt (H : Hp) (c : Addr) (N : Nat) (ns : List Nat) : Prop := ∃ kvs : List (Key × V), H c = some (.dK kvs) ∧ kvs.map (·.1) = ns.map kNat ∧ ns.Nodup ∧ ∀ n ∈ ns, n ≤ N
theorem SeenAt.len {H : Hp} {c : Addr} {N : Nat} {ns : List Nat} (h : SeenAt H c N ns) : ns.length ≤ N + 1 := by
  obtain ⟨_, _, _, nd, le⟩ := h
  have z := dup_lenN ns (List.range (N + 1)) nd fun x hx => List.mem_range.mpr (Nat.lt_succ_of_le (le x hx))
  rw [List.length_range] at z
  exact z
theorem any_key (kvs : List (Key × V)) (k : Key) : ((kvs.any fun kv => decide (kv.1 = k)) = true) ↔ k ∈ kvs.map (·.1) := by
  rw [List.any_eq_true, List.mem_map]
  constructor
  · rintro ⟨x, hx, h⟩
    exact ⟨x, hx, of_decide_eq_true h⟩
  · rintro ⟨x, hx, h⟩
    exact ⟨x, hx, decide_eq_true h⟩
theorem keys_old {kvs : List (Key × V)} {k : Key} (v : V) (h : k ∈ kvs.map (·.1)) : (putK kvs k v).map (·.1) = kvs.map (·.1) := by
  unfold putK
  rw [if_pos ((any_key kvs k).mpr h), List.map_map]
  apply List.map_congr_left
  intro x _
  show (if x.1 = k then (x.1, v) else x).1 = x.1
  split <;> rfl
theorem keys_new {kvs : List (Key × V)} {k : Key} (v : V) (h : ¬ k ∈ kvs.map (·.1)) : (putK kvs k v).map (·.1) = kvs.map (·.1) ++ [k] := by
  unfold putK
  rw [if_neg fun z => h ((any_key kvs k).mp z), List.map_append]
  rfl
/-- one more key -/
theorem SeenAt.put {H : Hp} {c : Addr} {N q : Nat} {ns : List Nat} (h : SeenAt H c N ns) (hq : q ≤ N) (hN : N ≤ 100) (v : V) : ∃ H', DPut H c (.int (q : Nat)) v H' ∧ ∃ o ms, H' = upd H c o ∧ SeenAt H' c N ms ∧ (∀ n ∈ ns, n ∈ ms) ∧ q ∈ ms := by
  have hl := h.len
  obtain ⟨kvs, e, ek, nd, le⟩ := h
  have lk := congrArg List.length ek
  rw [List.length_map, List.length_map] at lk
  refine ⟨_, DPut.k (k := kNat q) e (by rw [sizeLine_eq]; omega), _, if q ∈ ns then ns else ns ++ [q], rfl, ⟨_, upd_same, ?_, ?_, ?_⟩, ?_, ?_⟩
  · by_cases h : q ∈ ns
    · rw [if_pos h, keys_old _ (by rw [ek]; exact List.mem_map_of_mem h), ek]
    · rw [if_neg h, keys_new, ek, List.map_append]
      · rfl
      · rw [ek]
        intro z
        obtain ⟨x, hx, e⟩ := List.mem_map.mp z
        rw [kNat_inj e] at hx
        exact h hx
  · split
    · exact nd
    · next h =>
      refine List.nodup_append.mpr ⟨nd, List.nodup_cons.mpr ⟨List.not_mem_nil, List.nodup_nil⟩, fun a ha b hb => ?_⟩
      rw [List.mem_singleton.mp hb]
      intro e
      rw [e] at ha
      exact h ha
  · intro n hn
    split at hn
    · exact le n hn
    · rcases List.mem_append.mp hn with hn | hn
      · exact le n hn
      · rw [List.mem_singleton.mp hn]; exact hq
  · intro n hn
    split
    · exact hn
    · exact List.mem_append_left _ hn
  · split
    · assumption
    · exact List.mem_append_right _ List.mem_cons_self
abbrev NI (n : Nat) : V := .int (n : Int)
theorem SeenAt.key {H : Hp} {ns : List Nat} {kvs : List (Key × V)} (ek : kvs.map (·.1) = ns.map kNat) {i : Nat} {k : Key} {v : V} (h : kvs[i]? = some (k, v)) : ∃ n, ns[i]? = some n ∧ k = kNat n := by
  have z := congrArg (fun t => t[i]?) ek
  simp only [List.getElem?_map, h, Option.map_some] at z
  obtain ⟨n, hn, e⟩ := Option.map_eq_some_iff.mp z.symm
  exact ⟨n, hn, e.symm⟩
def spEn (K : PySem.W.Frag) : Sp := fun vs H Q _ => ∃ (H0 : Hp) (l : Addr) (xs : List V) (rs : List Row3), vs = [.ref l] ∧ H l = some (.lst xs) ∧ All2 (RowT3 K H0 H) xs rs ∧ rs.length ≤ 9 ∧
  (∀ i r, rs[i]? = some r → r.2.1 ≠ [] ∧ ∀ q ∈ r.2.1, i < q ∧ q ≤ rs.length) ∧ ∀ H', Same H H' → Q (.bl true) H'
section
variable {P : Program} {w : World} {K : PySem.W.Frag} {mg : Str → Option Value} {base : Heap}
abbrev sEn : Stmt := top 55
theorem scEn : FnScope ["_law_rows", "_law_seen", "_law_turn", "_law_place", "_law_later", "_law_one"] ["_law_rows"] (defScope sEn) := ⟨rfl, rfl, rfl, by decide +kernel, rfl, by decide +kernel, by decide +kernel⟩
theorem ok_en {f : Addr} {fd : FuncData} (F : Fun K "_law_ends" "_law_ends" sEn f fd) (m_range : mg "range" = none) (m_len : mg "len" = none) : FnOk P w K mg base CX0 1 f fd ["_law_rows"] (spEn K) := by
  refine F.ok scEn (fun vs H Q E h => ?_) (fun cdv A outer s H vs Q E hr h => ?_)
  · obtain ⟨H0, l, xs, rs, rfl, _⟩ := h
    rfl
  · obtain ⟨H0, l, xs, rs, rfl, hl, hrs, h9, hst, q⟩ := h
    refine ⟨_, (pss_cons (ps_set (i := 1) scEn.nd rfl (.inl rfl) (pe_disp (pps_cons pe_int pe_bl pps_nil) (by rfl) (by rfl) (fun z => by cases z) (by decide)))
       (pss_cons (ps_for PassesOwn.never rfl (pi_range1 rfl m_range (pa_cons pe_int pa_nil)) (pg_name (i := 2) scEn.nd rfl (.inl rfl))
       (pss_one (ps_for PassesOwn.never rfl (pi_list (pe_lock (pe_lc (own := [("_law_one", 5)]) (g := gName 5)  (by rfl) scEn.nd (pi_keys (pv 1)) (blkOk_by (own := [("_law_one", 5)]) (N := ["_law_rows", "_law_seen", "_law_turn", "_law_place", "_law_later", "_law_one"]) (sc := defScope sEn) (by decide +kernel)) (fun _ _ _ _ _ => (pg_name (i := 5) scEn.nd rfl (Or.inl rfl))) (fun _ _ _ _ _ => (pts_one (pt_cmpR op_lt (pv 5) (pe_callB (call_len_K (K := K) rfl) (by rfl) m_len PySem.boot_len (pa_cons (pv 0) pa_nil)) (nomark _)))) (fun _ _ _ _ _ => (pv 5))))) (pg_name (i := 3) scEn.nd rfl (.inl rfl))
       (pss_one (ps_for PassesOwn.never rfl (pi_tup (pe_ix (ix_tupK (K := K) rfl) (pe_ix (ix_listK (K := K) rfl) (pv 0) (pv 3) (fun _ _ => rfl)) pe_int (fun _ _ => rfl))) (pg_name (i := 4) scEn.nd rfl (.inl rfl))
       (pss_one (ps_dput (Nat.lt_of_le_of_lt (Nat.add_le_add_left (by decide : 1 ≤ 65) _) hr.units65) (pv 1) (pv 4) pe_bl (by rfl))))))))
       (pss_one (ps_ret (pe_and (pe_cmp (pc_din (Nat.lt_of_le_of_lt (Nat.add_le_add_left (by decide : 1 ≤ 65) _) hr.units65) (pe_callB (call_len_K (K := K) rfl) (by rfl) m_len PySem.boot_len (pa_cons (pv 0) pa_nil)) (pv 1))) (pe_one (pe_cmpR (Nm.op_eqDK (K := K) rfl hr.units) (pe_lock (pe_lc (own := [("_law_one", 5)]) (g := gName 5)  (by rfl) scEn.nd (pi_keys (pv 1)) (blkOk_by (own := [("_law_one", 5)]) (N := ["_law_rows", "_law_seen", "_law_turn", "_law_place", "_law_later", "_law_one"]) (sc := defScope sEn) (by decide +kernel)) (fun _ _ _ _ _ => (pg_name (i := 5) scEn.nd rfl (Or.inl rfl))) (fun _ _ _ _ _ => (pts_one (pt_not (pt_chain op_le op_le pe_int (pv 5) (pe_callB (call_len_K (K := K) rfl) (by rfl) m_len PySem.boot_len (pa_cons (pv 0) pa_nil)))))) (fun _ _ _ _ _ => (pv 5)))) (pe_lst pa_nil) (nomark _)))))))), ?_⟩
    have lxs := hrs.length
    have hN : rs.length ≤ 100 := by omega
    refine fun c nc => ⟨upd_same, [(kNat 0, .bl true)], rfl, by decide, ?_⟩
    have s1 : Same H (upd (upd H c (.dK [])) c (.dK (mergeK [] [(kNat 0, V.bl true)]))) := same_updN nc (same_upd nc)
    have seen0 : SeenAt (upd (upd H c (.dK [])) c (.dK (mergeK [] [(kNat 0, V.bl true)]))) c rs.length [0] := ⟨_, upd_same, rfl, List.nodup_cons.mpr ⟨List.not_mem_nil, List.nodup_nil⟩, fun n hn => by rw [List.mem_singleton.mp hn]; exact Nat.zero_le _⟩
    generalize upd (upd H c (.dK [])) c (.dK (mergeK [] [(kNat 0, V.bl true)])) = H1 at s1 seen0
    refine ⟨9, rfl, by decide, by decide, for_range (lo := 0) (n := 9)
      (fun t σ H' => ∃ (ns : List Nat) (a2 a3 a4 : Option V), σ = [some (.ref l), some (.ref c), a2, a3, a4, none] ∧ Same H H' ∧ SeenAt H' c rs.length ns ∧ ∃ m ∈ ns, min t rs.length ≤ m)
      ⟨[0], none, none, none, rfl, s1, seen0, 0, List.mem_cons_self, by omega⟩ ?_ ?_⟩
    · rintro t σ H2 ht ⟨ns, a2, a3, a4, rfl, s2, seen, m, hm, le⟩
      refine name_in ?_
      have nsl := seen.len
      obtain ⟨kvs, ec, ek, nd, nsle⟩ := id seen
      have lk := congrArg List.length ek
      rw [List.length_map, List.length_map] at lk
      refine ⟨c, _, ec, trivial, fun od => ?_⟩
      have s3 : Same H (upd H2 c (.frz od (.dK kvs))) := same_updN nc s2
      have e3 : (upd H2 c (.frz od (.dK kvs))) c = some (.frz od (.dK kvs)) := upd_same
      refine ⟨_, rfl, c, od, rfl, .inl ⟨kvs, e3, fun D nD => ?_⟩⟩
      generalize upd H2 c (.frz od (.dK kvs)) = H3 at s3 e3 nD
      have nDH := s3.free nD
      have Dc : D ≠ c := fun z => by rw [z, e3] at nD; cases nD
      refine lc_it (walk_keys (d := c) (o := od) (kvs := kvs)) (fun i H' => Same H H' ∧ H' c = some (.frz od (.dK kvs)) ∧ H' D = some (.lst (((ns.take i).filter fun n => decide (n < rs.length)).map NI)))
        ⟨same_updN nDH s3, by rw [upd_ne Dc.symm]; exact e3, upd_same⟩ (fun i H' _ z => z.2.1) ?_ ?_
      · rintro i x H4 H5 hi ⟨s4, e4, eD⟩ ⟨rfl, k, v, hk, rfl⟩
        obtain ⟨n, hn, rfl⟩ := SeenAt.key (H := H) ek hk
        refine ⟨rfl, ?_⟩
        refine ⟨_, rfl, _, rfl, l, xs, rfl, .inl (SqL.of (s4 _ _ hl)), _, _, rfl, rfl, _, rfl, ?_⟩
        have ef : ((ns.take (i + 1)).filter fun n => decide (n < rs.length)).map NI = ((ns.take i).filter fun n => decide (n < rs.length)).map NI ++ (if n < rs.length then [NI n] else []) := by
          rw [take_snoc hn, List.filter_append, List.map_append]
          congr 1
          by_cases h : n < rs.length
          · rw [if_pos h, List.filter_cons_of_pos (p := fun n => decide (n < rs.length)) (decide_eq_true h)]; rfl
          · rw [if_neg h, List.filter_cons_of_neg (p := fun n => decide (n < rs.length)) (by rw [decide_eq_false h]; exact Bool.false_ne_true)]; rfl
        have lf := List.length_filter_le (fun n => decide (n < rs.length)) (ns.take i)
        rw [List.length_take] at lf
        by_cases h : n < rs.length
        · rw [decide_eq_true (show ((n : Nat) : Int) < ((xs.length : Nat) : Int) by omega)]
          rw [if_pos h] at ef
          exact iteT ⟨_, rfl, _, eD, by rw [List.length_map, sizeLine_eq]; omega, same_updN nDH s4, by rw [upd_ne Dc.symm]; exact e4, by rw [upd_same, ef]; rfl⟩
        · rw [if_neg h, List.append_nil] at ef
          rw [decide_eq_false (show ¬ ((n : Nat) : Int) < ((xs.length : Nat) : Int) by omega)]
          exact iteF ⟨s4, e4, by rw [eD, ef]⟩
      · rintro H4 ⟨s4, e4, eD⟩
        rw [lk, List.take_length] at eD
        refine ⟨e4, ?_⟩
        have s5 : Same H (upd H4 c (.dK kvs)) := same_updN nc s4
        have e5 : (upd H4 c (.dK kvs)) D = some (.lst ((ns.filter fun n => decide (n < rs.length)).map NI)) := by rw [upd_ne Dc]; exact eD
        have seen5 : SeenAt (upd H4 c (.dK kvs)) c rs.length ns := ⟨kvs, upd_same, ek, nd, nsle⟩
        generalize upd H4 c (.dK kvs) = H5 at s5 e5 seen5
        generalize hzs : (ns.filter fun n => decide (n < rs.length)) = zs at e5
        refine ⟨D, rfl, ⟨_, SqL.of e5⟩, for_list (K := K) (a := D) (xs := zs.map NI)
          (fun j σ H' => ∃ (ms : List Nat) (a3 a4 : Option V), σ = [some (.ref l), some (.ref c), some (.int (0 + (t : Nat))), a3, a4, none] ∧ Same H H' ∧ H' D = some (.lst (zs.map NI)) ∧ SeenAt H' c rs.length ms ∧ (∀ n ∈ ns, n ∈ ms) ∧ ∀ z ∈ zs.take j, ∀ r, rs[z]? = some r → ∀ q ∈ r.2.1, q ∈ ms)
          ⟨ns, _, _, rfl, s5, e5, seen5, fun n h => h, fun z hz => by rw [List.take_zero] at hz; cases hz⟩ (fun j σ H' _ ⟨_, _, _, _, _, z, _⟩ => SqL.of z) ?_ ?_⟩
        · rintro j x σ H6 hx ⟨ms, a3, a4, rfl, s6, e6, seen6, sub6, all6⟩
          rw [List.getElem?_map] at hx
          obtain ⟨z, hz, rfl⟩ := Option.map_eq_some_iff.mp hx
          have zm : z ∈ zs := List.mem_of_getElem? hz
          rw [← hzs] at zm
          have zN : z < rs.length := of_decide_eq_true (List.mem_filter.mp zm).2
          have hxr : xs[z]? = some xs[z] := List.getElem?_eq_getElem (by omega)
          obtain ⟨r, hr', hv⟩ := hrs.get hxr
          have hst2 := (hst z r hr').2
          obtain ⟨p, x, u1, u2, ep, hp3, hxd, ⟨pw, epw, hpw⟩, _⟩ := hv
          subst epw
          have hp6 := s6.tupS hp3
          refine name_in ?_
          refine ⟨_, rfl, _, rfl, l, xs, _, xs[z], rfl, rfl, SqL.of (s6 _ _ hl), atI_nat hxr, p, _, 1, _, ep, rfl, hp6, at1, pw, rfl, ⟨_, s6.tupS hpw⟩, for_tup (K := K) (a := pw) (xs := r.2.1.map fun (n : Nat) => V.int (n : Int))
            (fun k σ H' => ∃ (ms' : List Nat) (a4 : Option V), σ = [some (.ref l), some (.ref c), some (.int (0 + (t : Nat))), some (NI z), a4, none] ∧ Same H H' ∧ H' D = some (.lst (zs.map NI)) ∧ SeenAt H' c rs.length ms' ∧ (∀ n ∈ ms, n ∈ ms') ∧ ∀ q ∈ r.2.1.take k, q ∈ ms')
            ⟨ms, _, rfl, s6, e6, seen6, fun n h => h, fun q hq => by rw [List.take_zero] at hq; cases hq⟩ (fun k σ H' _ ⟨_, _, _, z, _⟩ => z.tupS hpw) ?_ ?_⟩
          · rintro k y σ H7 hy ⟨ms', b4, rfl, s7, e7, seen7, sub7, all7⟩
            rw [List.getElem?_map] at hy
            obtain ⟨q', hq', rfl⟩ := Option.map_eq_some_iff.mp hy
            have qm := hst2 q' (List.mem_of_getElem? hq')
            obtain ⟨H8, dp, o, ms2, rfl, seen8, sub8, mem8⟩ := seen7.put qm.2 hN (.bl true)
            refine name_in ?_
            refine ⟨_, rfl, _, rfl, c, _, rfl, dp, ms2, _, rfl, same_updN nc s7, by rw [upd_ne Dc]; exact e7, seen8, fun n hn => sub8 n (sub7 n hn), fun q hq => ?_⟩
            rw [take_snoc hq'] at hq
            rcases List.mem_append.mp hq with hq | hq
            · exact sub8 q (all7 q hq)
            · rw [List.mem_singleton.mp hq]; exact mem8
          · rintro σ H7 ⟨ms', b4, rfl, s7, e7, seen7, sub7, all7⟩
            rw [List.length_map, List.take_length] at all7
            refine ⟨ms', _, _, rfl, s7, e7, seen7, fun n hn => sub7 n (sub6 n hn), fun y hy r' hr2 q hq => ?_⟩
            rw [take_snoc hz] at hy
            rcases List.mem_append.mp hy with hy | hy
            · exact sub7 q (all6 y hy r' hr2 q hq)
            · rw [List.mem_singleton.mp hy, hr'] at hr2
              cases hr2
              exact all7 q hq
        · rintro σ H6 ⟨ms, a3, a4, rfl, s6, e6, seen6, sub6, all6⟩
          rw [List.length_map, List.take_length] at all6
          refine ⟨ms, _, _, _, rfl, s6, seen6, ?_⟩
          by_cases h : m < rs.length
          · obtain ⟨ne, hq⟩ := hst m rs[m] (List.getElem?_eq_getElem h)
            obtain ⟨q', hq'⟩ := List.exists_mem_of_ne_nil _ ne
            refine ⟨q', all6 m (by rw [← hzs]; exact List.mem_filter.mpr ⟨hm, decide_eq_true h⟩) _ (List.getElem?_eq_getElem h) q' hq', ?_⟩
            have := hq q' hq'
            omega
          · exact ⟨m, sub6 m hm, by omega⟩
    · rintro σ H2 ⟨ns, a2, a3, a4, rfl, s2, seen, m, hm, le⟩
      dsimp only
      obtain ⟨kvs, ec, ek, nd, nsle⟩ := id seen
      have lk := congrArg List.length ek
      rw [List.length_map, List.length_map] at lk
      have mN : m = rs.length := by have := nsle m hm; omega
      subst mN
      have hk : kNat rs.length ∈ kvs.map (·.1) := by rw [ek]; exact List.mem_map_of_mem hm
      have hsome : (valV kvs (kNat rs.length)).isSome = true := by rw [← valV_any]; exact (any_key _ _).mpr hk
      refine ⟨_, rfl, l, xs, rfl, .inl (SqL.of (s2 _ _ hl)), _, rfl, c, _, rfl, by rw [lxs]; exact DGet.k (k := kNat rs.length) ec, ?_⟩
      rw [hsome]
      refine ⟨_, rfl, ?_⟩
      refine iteT ?_
      refine ⟨c, _, ec, trivial, fun od => ?_⟩
      have s3 : Same H (upd H2 c (.frz od (.dK kvs))) := same_updN nc s2
      have e3 : (upd H2 c (.frz od (.dK kvs))) c = some (.frz od (.dK kvs)) := upd_same
      refine ⟨_, rfl, c, od, rfl, .inl ⟨kvs, e3, fun D nD => ?_⟩⟩
      generalize upd H2 c (.frz od (.dK kvs)) = H3 at s3 e3 nD
      have nDH := s3.free nD
      have Dc : D ≠ c := fun z => by rw [z, e3] at nD; cases nD
      refine lc_it (walk_keys (d := c) (o := od) (kvs := kvs)) (fun i H' => Same H H' ∧ H' c = some (.frz od (.dK kvs)) ∧ H' D = some (.lst []))
        ⟨same_updN nDH s3, by rw [upd_ne Dc.symm]; exact e3, upd_same⟩ (fun i H' _ z => z.2.1) ?_ ?_
      · rintro i x H4 H5 hi ⟨s4, e4, eD⟩ ⟨rfl, k, v, hk, rfl⟩
        obtain ⟨n, hn, rfl⟩ := SeenAt.key (H := H) ek hk
        have nN := nsle n (List.mem_of_getElem? hn)
        refine ⟨rfl, ?_⟩
        refine ⟨_, rfl, 0, _, rfl, rfl, _, rfl, ?_⟩
        rw [decide_eq_true (show (0 : Int) ≤ ((n : Nat) : Int) by omega)]
        refine iteT ?_
        refine ⟨_, rfl, l, xs, rfl, .inl (SqL.of (s4 _ _ hl)), _, _, rfl, rfl, _, rfl, ?_⟩
        rw [decide_eq_true (show ((n : Nat) : Int) ≤ ((xs.length : Nat) : Int) by omega)]
        exact iteF ⟨s4, e4, eD⟩
      · rintro H4 ⟨s4, e4, eD⟩
        refine ⟨e4, ?_⟩
        have s5 : Same H (upd H4 c (.dK kvs)) := same_updN nc s4
        have e5 : (upd H4 c (.dK kvs)) D = some (.lst []) := by rw [upd_ne Dc]; exact eD
        generalize upd H4 c (.dK kvs) = H5 at s5 e5
        refine ⟨Nat.zero_le _, fun r nr => ?_⟩
        have s6 := same_upd (o := HO.lst []) nr
        refine ⟨.list [], .list [], .lst (SqL.of (s6 _ _ e5)) .nil, .lst (SqL.of upd_same) .nil, nilL_shaped, nilL_shaped, ?_⟩
        rw [eqv_nil]
        exact q _ (s5.trans s6)
end
end Tr

/-! K20 -/
/-! ### the next places lie behind -/
namespace Tr
open PySem PySem.Spec PyProof.Rows L2 Rw
def Up (L : List (List Nat)) (s b : Nat) : Prop := ∀ (i : Nat) (l : List Nat), L[i]? = some l → l ≠ [] ∧ ∀ q ∈ l, s + i < q ∧ q ≤ b
theorem Up.app {L M : List (List Nat)} {s b : Nat} (h : Up L s b) (k : Up M (s + L.length) b) : Up (L ++ M) s b := by
  intro i l e
  by_cases hi : i < L.length
  · rw [List.getElem?_append_left hi] at e
    exact h i l e
  · rw [List.getElem?_append_right (by omega)] at e
    obtain ⟨k1, k2⟩ := k _ l e
    exact ⟨k1, fun q hq => by have := k2 q hq; omega⟩
theorem Up.le {L : List (List Nat)} {s b c : Nat} (h : Up L s b) (k : b ≤ c) : Up L s c := fun i l e => ⟨(h i l e).1, fun q hq => by have := (h i l e).2 q hq; omega⟩
theorem Up.one {l : List Nat} {s b : Nat} (ne : l ≠ []) (h : ∀ q ∈ l, s < q ∧ q ≤ b) : Up [l] s b := by
  intro i l' e
  cases i with
  | zero =>
    obtain rfl : l = l' := Option.some.inj e
    exact ⟨ne, fun q hq => by have := h q hq; omega⟩
  | succ i => simp at e
theorem wa_up (N : Nat) : ∀ ds : List D, sizeOf ds < N → ∀ s b, s + (flat ds).length ≤ b → Up (wa ds s b) s b := by
  induction N with
  | zero => exact fun _ h => absurd h (by omega)
  | succ N ih =>
    intro ds h s b hb
    cases ds with
    | nil =>
      rw [wa]
      intro i l e
      simp at e
    | cons d ds =>
      simp at h
      have e1 : flat (d :: ds) = flat [d] ++ flat ds := flat_app [d] ds
      rw [e1, List.length_append] at hb
      have i3 := ih ds (by omega) (s + (flat [d]).length) b (by omega)
      have hf : ∃ f, f = (if ds.isEmpty then b else s + (flat [d]).length) ∧ s + (flat [d]).length ≤ f ∧ f ≤ b := by
        refine ⟨_, rfl, ?_⟩
        split <;> omega
      obtain ⟨f, ef, f1, f2⟩ := hf
      have key : (wo d s f).length = (flat [d]).length ∧ Up (wo d s f) s b := by
        rw [flat_one] at f1 ⊢
        rw [List.length_cons] at f1
        cases hk : forkOf d with
        | none =>
          rw [(fork2_none hk).2.2, (fork_none hk).1]
          exact ⟨rfl, Up.one (by simp) fun q hq => by rw [List.mem_singleton.mp hq]; omega⟩
        | some p =>
          obtain ⟨x, y⟩ := p
          obtain ⟨g1, _, _, _, s1, s2⟩ := fork_some hk
          rw [(fork2_some hk).2.2]
          rw [g1, List.length_append] at f1
          have hx := ih x (by omega) (s + 1) f (by omega)
          have hy := ih y (by omega) (s + 1 + (flat x).length) f (by omega)
          have lx := wa_len x (s + 1) f
          have ly := wa_len y (s + 1 + (flat x).length) f
          refine ⟨?_, ?_⟩
          · rw [g1, List.length_append, List.length_append, lx, ly]
            simp only [List.length_cons, List.length_nil, List.length_append]
            omega
          · refine Up.app (Up.app (Up.one (by simp) fun q hq => ?_) (hx.le f2)) ?_
            · rcases List.mem_cons.mp hq with rfl | hq
              · split <;> omega
              · rw [List.mem_singleton.mp hq]
                split <;> omega
            · rw [List.length_append, lx]
              have e : s + ([[if x.isEmpty = true then f else s + 1, if y.isEmpty = true then f else s + 1 + (flat x).length]].length + (flat x).length) = s + 1 + (flat x).length := by
                simp only [List.length_cons, List.length_nil]
                omega
              rw [e]
              exact hy.le f2
      rw [wa, ← ef]
      refine key.2.app ?_
      rw [key.1]
      exact i3
theorem rows_up {ds : List D} (i : Nat) (r : Row3) (h : (rowsOf ds 0 (flat ds).length [])[i]? = some r) : r.2.1 ≠ [] ∧ ∀ q ∈ r.2.1, i < q ∧ q ≤ (flat ds).length := by
  unfold rowsOf zip3 at h
  obtain ⟨_, h⟩ := List.getElem?_zip_eq_some.mp h
  obtain ⟨h, _⟩ := List.getElem?_zip_eq_some.mp h
  have z := wa_up _ ds (Nat.lt_succ_self _) 0 (flat ds).length (by omega) i _ h
  exact ⟨z.1, fun q hq => by have := z.2 q hq; omega⟩
theorem rows_len (ds : List D) : (rowsOf ds 0 (flat ds).length []).length = (flat ds).length := by
  unfold rowsOf zip3
  rw [List.length_zip, List.length_zip, wa_len, hl_len]
  omega
end Tr

/-! K21 -/
/-! ### names of a legal body's items -/
namespace Tr
open PySem PySem.Spec PyProof.Rows L2 Rw
def named8 : List Str := ["test", "set", "clear", "take", "give", "piece", "start", "cancel"]
theorem NmOk.sub {ws vs : List Str} {d : D} (h : NmOk ws d) (k : ∀ x ∈ vs, x ∈ ws) : NmOk vs d := by
  obtain ⟨w, r, e, hn⟩ := h
  exact ⟨w, r, e, fun hw => hn (k w hw)⟩
theorem nm_shaped {d : D} {a : Nat} (hb : BrOk d) (h : shaped d a = true) : NmOk named8 d := by
  obtain ⟨w, r, rfl, _, _, _⟩ := hb
  refine ⟨w, r, rfl, fun hw => ?_⟩
  have of : ∀ {n : D} {r' : List D}, nameD n = true → ∃ (m : Str) (r2 : List D), n :: r' = .str m :: r2 := fun {n r'} hn => by
    obtain ⟨z, rfl⟩ := name_str hn
    exact ⟨z, r', rfl⟩
  match r with
  | [] =>
    rw [shaped1] at h
    have e := of_decide_eq_true h
    subst e
    exact absurd hw (by decide +kernel)
  | [n] =>
    rw [shaped2] at h
    simp only [Bool.and_eq_true] at h
    exact of h.2
  | [n, v] =>
    rw [shaped3] at h
    simp only [Bool.and_eq_true] at h
    have h := h.2
    by_cases e : w = "piece"
    · rw [if_pos e, Bool.and_eq_true] at h
      exact of h.1
    · rw [if_neg e, Bool.and_eq_true] at h
      have h := h.2
      unfold forkShape at h
      simp only [Bool.and_eq_true] at h
      have e := of_decide_eq_true h.1.1
      subst e
      exact absurd hw (by decide +kernel)
  | [n, x, y] =>
    rw [shaped4] at h
    simp only [Bool.and_eq_true] at h
    have h := h.2
    unfold forkShape at h
    simp only [Bool.and_eq_true] at h
    exact of h.1.1.2
  | _ :: _ :: _ :: _ :: _ => simp [shaped] at h
theorem nm_flat {ds : List D} {a : Nat} (h : (misl ds a).contains true = false) : ∀ d ∈ flat ds, NmOk named8 d := fun d hd => by
  obtain ⟨b, a', s⟩ := br_flat h d hd
  exact nm_shaped b s
theorem pc_nm {d : D} {a : Nat} (hb : BrOk d) (h : shaped d a = true) : ∀ e ∈ pcs d, NmOk named8 e := by
  intro e he
  by_cases hw : wD d = "piece"
  · obtain ⟨w, r, rfl, _, _, hn⟩ := hb
    have hw : w = "piece" := hw
    subst hw
    obtain ⟨n, v, rfl, h1, h2⟩ := piece_shape h
    obtain ⟨ws, rfl, m, l4, wi⟩ := inner_tup h2
    obtain ⟨z, rfl⟩ := name_str h1
    rw [pcs_piece] at he
    exact nm_flat m e he
  · rw [pcs_none hw] at he
    cases he
theorem Lg.mis0 {a : Nat} {h : List Str} {ds : List D} (p : Lg a h ds) : (misl ds a).contains true = false := by
  cases hc : (misl ds a).contains true with
  | false => rfl
  | true =>
    have z := p.mis true (by simpa using hc)
    cases z
/-- all that is asked of a legal body's items -/
theorem legal_pc {ds : List D} {a : Nat} (h : (misl ds a).contains true = false) : ∀ d ∈ flat ds, BrOk d ∧ PcOk d := fun d hd => by
  obtain ⟨b, a', s⟩ := br_flat h d hd
  exact ⟨b, pc_ok b s⟩
theorem legal_nm {ds : List D} {a : Nat} (h : (misl ds a).contains true = false) : ∀ d ∈ fwp ds, NmOk named8 d := by
  intro d hd
  unfold fwp at hd
  obtain ⟨e, he, hd⟩ := List.mem_flatMap.mp hd
  obtain ⟨b, a', s⟩ := br_flat h e he
  rcases List.mem_cons.mp hd with rfl | hd
  · exact nm_shaped b s
  · exact pc_nm b s d hd
theorem legal_len {ds : List D} {a : Nat} (h : (misl ds a).contains true = false) (h8 : (flat ds).length ≤ 8) : (fwp ds).length < 64 := by
  have z := fw_len (flat ds) fun d hd => (legal_pc h d hd).2
  unfold fwp
  omega
/-- two ascending lists of the same texts are one -/
theorem namesF_mem (ws : List Str) (ds : List D) (x : Str) : x ∈ namesF ws ds ↔ ∃ d ∈ ds, wD d ∈ ws ∧ nmI d = x := by
  rw [namesF_all, Tx.mem_all]
  unfold nmsL
  rw [List.mem_map]
  constructor
  · rintro ⟨d, hd, e⟩
    obtain ⟨h1, h2⟩ := List.mem_filter.mp hd
    exact ⟨d, h1, of_decide_eq_true h2, e⟩
  · rintro ⟨d, h1, h2, e⟩
    exact ⟨d, List.mem_filter.mpr ⟨h1, decide_eq_true h2⟩, e⟩
theorem namesF_nodup (ws : List Str) (ds : List D) : (namesF ws ds).Nodup := by
  rw [namesF_all]
  unfold Tx.allIns
  have z : ∀ (ks l : List Str), l.Nodup → (ks.foldl (fun l k => Tx.ins k l) l).Nodup := by
    intro ks
    induction ks with
    | nil => exact fun l h => h
    | cons k ks ih => exact fun l h => ih _ (Tx.nodup_ins h)
  exact z _ _ List.nodup_nil
theorem namesF_perm {ws vs : List Str} (h : ∀ x, x ∈ ws ↔ x ∈ vs) (ds : List D) : (namesF ws ds).Perm (namesF vs ds) := by
  refine (List.perm_ext_iff_of_nodup (namesF_nodup ws ds) (namesF_nodup vs ds)).mpr fun x => ?_
  rw [namesF_mem, namesF_mem]
  constructor
  · rintro ⟨d, h1, h2, e⟩
    exact ⟨d, h1, (h _).mp h2, e⟩
  · rintro ⟨d, h1, h2, e⟩
    exact ⟨d, h1, (h _).mpr h2, e⟩
end Tr

/-! K22 -/
/-! ### small data, shown -/
namespace Tr
open PySem PySem.Spec PyProof.Rows L2 Rw
mutual
/-- short texts, small numbers, and tuples of them -/
def shB : D → Bool
  | .str z => (z.cps.toList.all fun c => decide (c < 16 ^ 8)) && decide (z.cps.size ≤ 10)
  | .tuple ds => shAll ds
  | .int i => decide (0 ≤ i) && decide (i ≤ 100)
  | _ => false
def shAll : List D → Bool
  | [] => true
  | d :: ds => shB d && shAll ds
end
theorem shAll_app : ∀ as bs : List D, shAll (as ++ bs) = (shAll as && shAll bs)
  | [], bs => by rw [List.nil_append, shAll, Bool.true_and]
  | a :: as, bs => by rw [List.cons_append, shAll, shAll, shAll_app as bs, Bool.and_assoc]
theorem shAll_mem {ds : List D} (h : ∀ d ∈ ds, shB d = true) : shAll ds = true := by
  induction ds with
  | nil => rw [shAll]
  | cons d ds ih => rw [shAll, h d List.mem_cons_self, ih fun x hx => h x (List.mem_cons_of_mem _ hx)]; rfl
theorem small_ints : ∀ n : Fin 101, (PyData.int ((n.val : Nat) : Int)).leavesShort 13 = true ∧ (PyData.int ((n.val : Nat) : Int)).weight + 1 ≤ 12 ∧ (PyData.int ((n.val : Nat) : Int)).showable = true := by decide +kernel
mutual
theorem sh_one : ∀ d : D, shB d = true → d.hasDict = false ∧ d.showable = true ∧ d.leavesShort 13 = true ∧ d.weight + 1 ≤ 12 * cntD d
  | .str z, h => by
    rw [shB, Bool.and_eq_true] at h
    refine ⟨rfl, rfl, h.1, ?_⟩
    have := of_decide_eq_true h.2
    show z.cps.size + 1 ≤ 12 * 1
    omega
  | .tuple ds, h => by
    rw [shB] at h
    obtain ⟨a, b, c, e⟩ := sh_all ds h
    refine ⟨by rw [PyData.hasDict]; exact a, by rw [PyData.showable]; exact b, by rw [PyData.leavesShort]; exact c, ?_⟩
    rw [PyData.weight, cntD]
    omega
  | .int i, h => by
    rw [shB, Bool.and_eq_true] at h
    have h1 := of_decide_eq_true h.1
    have h2 := of_decide_eq_true h.2
    have z := small_ints ⟨i.toNat, by omega⟩
    have e : ((i.toNat : Nat) : Int) = i := Int.toNat_of_nonneg h1
    simp only [e] at z
    exact ⟨rfl, z.2.2, z.1, z.2.1⟩
  | .none, h => by rw [shB] at h <;> first | (cases h; done) | (intros; simp)
  | .list _, h => by rw [shB] at h <;> first | (cases h; done) | (intros; simp)
  | .bool _, h => by rw [shB] at h <;> first | (cases h; done) | (intros; simp)
  | .dict _, h => by rw [shB] at h <;> first | (cases h; done) | (intros; simp)
theorem sh_all : ∀ ds : List D, shAll ds = true → PyData.hasDictAll ds = false ∧ PyData.showableAll ds = true ∧ PyData.leavesShortAll 13 ds = true ∧ PyData.weightAll ds ≤ 12 * cntAll ds
  | [], _ => ⟨rfl, rfl, rfl, Nat.zero_le _⟩
  | d :: ds, h => by
    rw [shAll, Bool.and_eq_true] at h
    obtain ⟨a, b, c, e⟩ := sh_one d h.1
    obtain ⟨a1, b1, c1, e1⟩ := sh_all ds h.2
    refine ⟨by rw [PyData.hasDictAll, a, a1]; rfl, by rw [PyData.showableAll, b, b1]; rfl, by rw [PyData.leavesShortAll, c, c1]; rfl, ?_⟩
    rw [PyData.weightAll, cntAll]
    omega
end
end Tr

/-! K23 -/
/-! ### a legal body is small data -/
namespace Tr
open PySem PySem.Spec PyProof.Rows L2 Rw
theorem sh_name {n : D} (h : nameD n = true) : shB n = true := by
  obtain ⟨z, rfl⟩ := name_str h
  have h : nameB z = true := h
  unfold nameB at h
  rw [Bool.and_eq_true, Bool.and_eq_true] at h
  have h8 := of_decide_eq_true h.1.2
  rw [shB, Bool.and_eq_true]
  refine ⟨?_, decide_eq_true (by have : z.cps.size ≤ 8 := h8; omega)⟩
  rw [List.all_eq_true]
  intro c hc
  have hl := List.all_eq_true.mp h.2 (letB c) (List.mem_map_of_mem hc)
  unfold letB at hl
  have hl : [97] ≤ [c] ∧ [c] ≤ [122] := by simpa using hl
  by_cases h2 : c ≤ 122
  · exact decide_eq_true (by omega)
  · exact absurd (List.cons_lt_cons_iff.mpr (.inl (by omega))) (List.not_lt.mpr hl.2)
theorem no_true {l : List Bool} (h : l.contains true = false) : ∀ b ∈ l, b = false := by
  intro b hb
  cases b with
  | false => rfl
  | true => rw [List.contains_iff_mem.mpr hb] at h; cases h
theorem to_no {l : List Bool} (h : ∀ b ∈ l, b = false) : l.contains true = false := by
  cases hc : l.contains true with
  | false => rfl
  | true =>
    have z := h true (List.contains_iff_mem.mp hc)
    cases z
theorem sh_legal (N : Nat) : ∀ (ds : List D) (a : Nat), sizeOf ds < N → (misl ds a).contains true = false → shAll ds = true := by
  induction N with
  | zero => exact fun _ _ h => absurd h (by omega)
  | succ N ih =>
    intro ds a h hm
    cases ds with
    | nil => rw [shAll]
    | cons d ds =>
      simp at h
      have hm := no_true hm
      rw [misl_cons] at hm
      have hs : shaped d a = true := by
        have z := hm _ List.mem_cons_self
        simpa using z
      rw [if_pos hs] at hm
      have hk : ∀ b ∈ misk d a, b = false := fun b hb => hm b (List.mem_cons_of_mem _ (List.mem_append_left _ hb))
      have ht : ∀ b ∈ misl ds a, b = false := fun b hb => hm b (List.mem_cons_of_mem _ (List.mem_append_right _ hb))
      rw [shAll, ih ds a (by omega) (to_no ht), Bool.and_true]
      have hone : ∀ b ∈ misl [d] a, b = false := by
        rw [misl_cons, if_pos hs, misl_nil, List.append_nil, hs]
        intro b hb
        rcases List.mem_cons.mp hb with e | hb
        · rw [e]; rfl
        · exact hk b hb
      have br := (br_flat (ds := [d]) (a := a) (to_no hone) d (by rw [flat_one]; exact List.mem_cons_self)).1
      obtain ⟨w, r, rfl, hT, hC, hN⟩ := br
      have fork : ∀ x y, forkOf (.tuple (.str w :: r)) = some (x, y) → shAll x = true ∧ shAll y = true := fun x y hf => by
        obtain ⟨_, g, _, _, s1, s2⟩ := fork_some hf
        rw [g a] at hk
        exact ⟨ih x (a + 1) (by omega) (to_no fun b hb => hk b (List.mem_append_left _ hb)), ih y (a + 1) (by omega) (to_no fun b hb => hk b (List.mem_append_right _ hb))⟩
      match r with
      | [] =>
        rw [shaped1] at hs
        have e := of_decide_eq_true hs
        subst e
        decide +kernel
      | [n] =>
        rw [shaped2] at hs
        simp only [Bool.and_eq_true] at hs
        have hw := of_decide_eq_true hs.1.2
        have hw2 : shB (.str w) = true := by
          simp only [plain6, List.mem_cons, List.mem_nil_iff, or_false] at hw
          rcases hw with rfl | rfl | rfl | rfl | rfl | rfl <;> decide +kernel
        rw [shB, shAll, shAll, shAll, hw2, sh_name hs.2]
        rfl
      | [n, v] =>
        rw [shaped3] at hs
        simp only [Bool.and_eq_true] at hs
        have hs := hs.2
        by_cases e : w = "piece"
        · subst e
          rw [if_pos rfl, Bool.and_eq_true] at hs
          obtain ⟨ws, rfl, m, _, _⟩ := inner_tup hs.2
          have z := ih ws 0 (by simp at h; omega) m
          have hw2 : shB (.str "piece") = true := by decide +kernel
          rw [shB, shAll, shAll, shAll, shAll, hw2, sh_name hs.1, shB, z]
          rfl
        · rw [if_neg e, Bool.and_eq_true] at hs
          have hs := hs.2
          unfold forkShape at hs
          simp only [Bool.and_eq_true] at hs
          have e := of_decide_eq_true hs.1.1
          subst e
          obtain ⟨x, y, e⟩ := hC rfl
          cases e
          obtain ⟨z1, z2⟩ := fork x y (by unfold forkOf; exact if_pos rfl)
          have hw2 : shB (.str "choose") = true := by decide +kernel
          rw [shB, shAll, shAll, shAll, shAll, hw2, shB, shB, z1, z2]
          rfl
      | [n, x, y] =>
        rw [shaped4] at hs
        simp only [Bool.and_eq_true] at hs
        have hs := hs.2
        unfold forkShape at hs
        simp only [Bool.and_eq_true] at hs
        have e := of_decide_eq_true hs.1.1.1
        subst e
        obtain ⟨n', x', y', e⟩ := hT rfl
        cases e
        obtain ⟨z1, z2⟩ := fork x' y' (by unfold forkOf; exact if_pos rfl)
        have hw2 : shB (.str "test") = true := by decide +kernel
        rw [shB, shAll, shAll, shAll, shAll, shAll, hw2, sh_name hs.1.1.2, shB, shB, z1, z2]
        rfl
      | _ :: _ :: _ :: _ :: _ => simp [shaped] at hs
end Tr

/-! K24 -/
/-! ### rows are small data -/
namespace Tr
open PySem PySem.Spec PyProof.Rows L2 Rw
def rowD (r : Row3) : D := .tuple [r.1, .tuple (r.2.1.map fun (n : Nat) => PyData.int (n : Int)), .tuple (r.2.2.map PyData.str)]
theorem sh_fork {d : D} {x y : List D} (h : forkOf d = some (x, y)) (hs : shB d = true) : shAll x = true ∧ shAll y = true ∧ cntAll x + cntAll y + 1 ≤ cntD d := by
  unfold forkOf at h
  split at h
  · split at h
    · cases h
      simp only [shB, shAll, Bool.and_eq_true] at hs
      refine ⟨hs.2.2.1, hs.2.2.2.1, ?_⟩
      simp only [cntD, cntAll]
      omega
    · cases h
  · split at h
    · cases h
      simp only [shB, shAll, Bool.and_eq_true] at hs
      refine ⟨hs.2.1, hs.2.2.1, ?_⟩
      simp only [cntD, cntAll]
      omega
    · cases h
  · cases h
theorem sh_flat (N : Nat) : ∀ ds : List D, sizeOf ds < N → shAll ds = true → ∀ e ∈ flat ds, shB e = true ∧ cntD e ≤ cntAll ds := by
  induction N with
  | zero => exact fun _ h => absurd h (by omega)
  | succ N ih =>
    intro ds h hs e he
    cases ds with
    | nil => rw [flat] at he; cases he
    | cons d ds =>
      simp at h
      rw [shAll, Bool.and_eq_true] at hs
      rw [cntAll]
      rw [flat] at he
      rcases List.mem_cons.mp he with rfl | he
      · exact ⟨hs.1, by omega⟩
      rcases List.mem_append.mp he with he | he
      · cases hf : forkOf d with
        | none => rw [(fork_none hf).1] at he; cases he
        | some p =>
          obtain ⟨x, y⟩ := p
          obtain ⟨f1, _, _, _, s1, s2⟩ := fork_some hf
          obtain ⟨z1, z2, z3⟩ := sh_fork hf hs.1
          rw [f1] at he
          rcases List.mem_append.mp he with he | he
          · have z := ih x (by omega) z1 e he
            exact ⟨z.1, by omega⟩
          · have z := ih y (by omega) z2 e he
            exact ⟨z.1, by omega⟩
      · have z := ih ds (by omega) hs.2 e he
        exact ⟨z.1, by omega⟩
def ShS (n : Str) : Prop := shB (.str n) = true
theorem sh_nm {d : D} (h : shB d = true) : ShS (nmD d) := by
  unfold nmD
  split
  · simp only [shB, shAll, Bool.and_eq_true] at h
    unfold ShS
    simp only [shB, Bool.and_eq_true]
    exact h.2.1
  · unfold ShS
    decide +kernel
theorem sh_behind {d : D} {h : List Str} (hd : shB d = true) (hh : ∀ n ∈ h, ShS n) : (∀ n ∈ behindD d h, ShS n) ∧ (behindD d h).length ≤ h.length + 1 := by
  unfold behindD
  split
  · refine ⟨fun n hn => ?_, by rw [List.length_append]; exact Nat.le_refl _⟩
    rcases List.mem_append.mp hn with hn | hn
    · exact hh n hn
    · rw [List.mem_singleton.mp hn]
      exact sh_nm hd
  · split
    · exact ⟨fun n hn => hh n (List.mem_of_mem_take (by simpa [List.dropLast_eq_take] using hn)), by simp; omega⟩
    · exact ⟨hh, Nat.le_succ _⟩
theorem hl_ok (N : Nat) : ∀ (ds : List D) (h : List Str), sizeOf ds < N → shAll ds = true → (∀ n ∈ h, ShS n) → ∀ L ∈ hl ds h, (∀ n ∈ L, ShS n) ∧ L.length ≤ h.length + (flat ds).length := by
  induction N with
  | zero => exact fun _ _ h => absurd h (by omega)
  | succ N ih =>
    intro ds h hz hs hh L hL
    cases ds with
    | nil => rw [hl] at hL; cases hL
    | cons d ds =>
      simp at hz
      rw [shAll, Bool.and_eq_true] at hs
      rw [hl] at hL
      rw [flat, List.length_cons, List.length_append]
      rcases List.mem_cons.mp hL with rfl | hL
      · exact ⟨hh, by omega⟩
      rcases List.mem_append.mp hL with hL | hL
      · cases hf : forkOf d with
        | none => rw [(fork2_none hf).2.1] at hL; cases hL
        | some p =>
          obtain ⟨x, y⟩ := p
          obtain ⟨f1, _, _, _, s1, s2⟩ := fork_some hf
          obtain ⟨z1, z2, _⟩ := sh_fork hf hs.1
          rw [(fork2_some hf).2.1] at hL
          rw [f1, List.length_append]
          rcases List.mem_append.mp hL with hL | hL
          · have z := ih x h (by omega) z1 hh L hL
            exact ⟨z.1, by omega⟩
          · have z := ih y h (by omega) z2 hh L hL
            exact ⟨z.1, by omega⟩
      · obtain ⟨b1, b2⟩ := sh_behind hs.1 hh
        have z := ih ds _ (by omega) hs.2 b1 L hL
        exact ⟨z.1, by omega⟩
end Tr

/-! K25 -/
/-! ### rows as data -/
namespace Tr
open PySem PySem.Spec PyProof.Rows L2 Rw
mutual
theorem dq_one {K : PySem.W.Frag} {H : Hp} : ∀ (d : D) (v : V), shB d = true → Dp K H v d → Dq K H v d
  | .str z, v, _, h => by cases h; exact .str z
  | .int i, v, _, h => by cases h; exact .int i
  | .tuple ds, v, s, h => by
    rw [shB] at s
    cases h with
    | tup hp ha => exact .tup hp (dq_all ds _ s ha)
  | .none, _, h, _ => by rw [shB] at h <;> first | (cases h; done) | (intros; simp)
  | .list _, _, h, _ => by rw [shB] at h <;> first | (cases h; done) | (intros; simp)
  | .bool _, _, h, _ => by rw [shB] at h <;> first | (cases h; done) | (intros; simp)
  | .dict _, _, h, _ => by rw [shB] at h <;> first | (cases h; done) | (intros; simp)
theorem dq_all {K : PySem.W.Frag} {H : Hp} : ∀ (ds : List D) (vs : List V), shAll ds = true → DpAll K H vs ds → DqAll K H vs ds
  | [], _, _, h => by cases h; exact .nil
  | d :: ds, _, s, h => by
    rw [shAll, Bool.and_eq_true] at s
    cases h with
    | cons h1 h2 => exact .cons (dq_one d _ s.1 h1) (dq_all ds _ s.2 h2)
end
mutual
theorem dt_one {K : PySem.W.Frag} {H H' : Hp} (t : ∀ a xs, SqT K H a xs → SqT K H' a xs) : ∀ (d : D) (v : V), shB d = true → Dp K H v d → Dp K H' v d
  | .str z, v, _, h => by cases h; exact .str z
  | .int i, v, _, h => by cases h; exact .int i
  | .tuple ds, v, s, h => by
    rw [shB] at s
    cases h with
    | tup hp ha => exact .tup (t _ _ hp) (dt_all t ds _ s ha)
  | .none, _, h, _ => by rw [shB] at h <;> first | (cases h; done) | (intros; simp)
  | .list _, _, h, _ => by rw [shB] at h <;> first | (cases h; done) | (intros; simp)
  | .bool _, _, h, _ => by rw [shB] at h <;> first | (cases h; done) | (intros; simp)
  | .dict _, _, h, _ => by rw [shB] at h <;> first | (cases h; done) | (intros; simp)
theorem dt_all {K : PySem.W.Frag} {H H' : Hp} (t : ∀ a xs, SqT K H a xs → SqT K H' a xs) : ∀ (ds : List D) (vs : List V), shAll ds = true → DpAll K H vs ds → DpAll K H' vs ds
  | [], _, _, h => by cases h; exact .nil
  | d :: ds, _, s, h => by
    rw [shAll, Bool.and_eq_true] at s
    cases h with
    | cons h1 h2 => exact .cons (dt_one t d _ s.1 h1) (dt_all t ds _ s.2 h2)
end
theorem dp_ints {K : PySem.W.Frag} {H : Hp} : ∀ ns : List Nat, DpAll K H (ns.map fun (n : Nat) => V.int (n : Int)) (ns.map fun (n : Nat) => PyData.int (n : Int))
  | [] => .nil
  | n :: ns => .cons (.int _) (dp_ints ns)
theorem dp_strs {K : PySem.W.Frag} {H : Hp} : ∀ ns : List Str, DpAll K H (ns.map V.str) (ns.map PyData.str)
  | [] => .nil
  | n :: ns => .cons (.str _) (dp_strs ns)
theorem dp_row {K : PySem.W.Frag} {H0 H : Hp} (s : Same H0 H) {v : V} {r : Row3} (h : RowT3 K H0 H v r) : Dp K H v (rowD r) := by
  obtain ⟨p, x, u1, u2, rfl, hp, hx, ⟨p1, rfl, h1⟩, ⟨p2, rfl, h2⟩⟩ := h
  have hx' : DpAll K H [x] [r.1] := DpAll.same (.cons hx .nil) s
  cases hx' with
  | cons hx' _ => exact .tup hp (.cons hx' (.cons (.tup h1 (dp_ints _)) (.cons (.tup h2 (dp_strs _)) .nil)))
theorem dp_rows {K : PySem.W.Frag} {H0 H : Hp} (s : Same H0 H) : ∀ {ys : List V} {rs : List Row3}, All2 (RowT3 K H0 H) ys rs → DpAll K H ys (rs.map rowD)
  | _, _, .nil => .nil
  | _, _, .cons h t => .cons (dp_row s h) (dp_rows s t)
theorem cnt_map {α : Type} (f : α → D) (hf : ∀ a, cntD (f a) = 1) : ∀ l : List α, cntAll (l.map f) = l.length
  | [] => rfl
  | a :: l => by rw [List.map_cons, cntAll, hf, cnt_map f hf l, List.length_cons]; omega
theorem dep_map {α : Type} (f : α → D) (hf : ∀ a, (f a).depth = 0) : ∀ l : List α, PyData.depthAll (l.map f) = 0
  | [] => rfl
  | a :: l => by rw [List.map_cons, PyData.depthAll, hf, dep_map f hf l]; rfl
/-- lists of next places have at most two -/
theorem row_small {ds : List D} (hs : shAll ds = true) (h8 : (flat ds).length ≤ 8) (hc : cntAll ds ≤ 200) (hd : ∀ d ∈ flat ds, d.depth ≤ 15) (h2 : ∀ l ∈ wa ds 0 (flat ds).length, l.length ≤ 2) : ∀ r ∈ rowsOf ds 0 (flat ds).length [], shB (rowD r) = true ∧ cntD (rowD r) ≤ 230 ∧ (rowD r).depth ≤ 17 := by
  intro r hr
  obtain ⟨i, hi⟩ := List.getElem?_of_mem hr
  have up := rows_up i r hi
  unfold rowsOf zip3 at hi
  obtain ⟨e1, hi⟩ := List.getElem?_zip_eq_some.mp hi
  obtain ⟨e2, e3⟩ := List.getElem?_zip_eq_some.mp hi
  have m1 := List.mem_of_getElem? e1
  have m2 := h2 _ (List.mem_of_getElem? e2)
  have m3 := hl_ok _ ds [] (Nat.lt_succ_self _) hs (fun n h => nomatch h) _ (List.mem_of_getElem? e3)
  have z := sh_flat _ ds (Nat.lt_succ_self _) hs _ m1
  have dz := hd _ m1
  have l3 := m3.2
  rw [List.length_nil, Nat.zero_add] at l3
  have s2 : shAll (r.2.1.map fun (n : Nat) => PyData.int (n : Int)) = true := shAll_mem fun d hd => by
    obtain ⟨n, hn, rfl⟩ := List.mem_map.mp hd
    have := (up.2 n hn).2
    rw [shB, Bool.and_eq_true]
    exact ⟨decide_eq_true (by omega), decide_eq_true (by omega)⟩
  have s3 : shAll (r.2.2.map PyData.str) = true := shAll_mem fun d hd => by
    obtain ⟨n, hn, rfl⟩ := List.mem_map.mp hd
    exact m3.1 n hn
  refine ⟨?_, ?_, ?_⟩
  · unfold rowD
    rw [shB, shAll, shAll, shAll, shAll, z.1, shB, shB, s2, s3]
    rfl
  · unfold rowD
    rw [cntD, cntAll, cntAll, cntAll, cntAll, cntD, cntD, cnt_map _ (fun _ => rfl), cnt_map _ (fun _ => rfl)]
    omega
  · unfold rowD
    rw [PyData.depth, PyData.depthAll, PyData.depthAll, PyData.depthAll, PyData.depthAll, PyData.depth, PyData.depth, dep_map _ (fun _ => rfl), dep_map _ (fun _ => rfl)]
    omega
end Tr

/-! K26 -/
/-! ### lists of rows, of items, shown -/
namespace Tr
open PySem PySem.Spec PyProof.Rows L2 Rw
theorem wa_two (N : Nat) : ∀ (ds : List D), sizeOf ds < N → ∀ s b, ∀ l ∈ wa ds s b, l.length ≤ 2 := by
  induction N with
  | zero => exact fun _ h => absurd h (by omega)
  | succ N ih =>
    intro ds h s b l hl
    cases ds with
    | nil => rw [wa] at hl; cases hl
    | cons d ds =>
      simp at h
      rw [wa] at hl
      rcases List.mem_append.mp hl with hl | hl
      · cases hk : forkOf d with
        | none =>
          rw [(fork2_none hk).2.2] at hl
          rw [List.mem_singleton.mp hl]
          exact Nat.le_succ _
        | some p =>
          obtain ⟨x, y⟩ := p
          obtain ⟨_, _, _, _, s1, s2⟩ := fork_some hk
          rw [(fork2_some hk).2.2] at hl
          rcases List.mem_append.mp hl with hl | hl
          · rcases List.mem_append.mp hl with hl | hl
            · rw [List.mem_singleton.mp hl]
              exact Nat.le_refl _
            · exact ih x (by omega) _ _ l hl
          · exact ih y (by omega) _ _ l hl
      · exact ih ds (by omega) _ _ l hl
theorem small_show {ds : List D} (hs : shAll ds = true) (hc : cntAll ds ≤ 5000) (hd : PyData.depthAll ds ≤ 30) :
    (PyData.list ds).hasDict = false ∧ (PyData.list ds).showable = true ∧ (PyData.list ds).depth ≤ 40 ∧ (PyData.list ds).shown.length ≤ sizeLine := by
  obtain ⟨a, b, c, e⟩ := sh_all ds hs
  refine ⟨by rw [PyData.hasDict]; exact a, by rw [PyData.showable]; exact b, by rw [PyData.depth]; omega, PyData.shown_fits (B := 13) (by decide) (by decide) (by rw [PyData.leavesShort]; exact c) ?_⟩
  rw [PyData.weight]
  omega
theorem dep_of {n : Nat} : ∀ {ds : List D}, (∀ d ∈ ds, d.depth ≤ n) → PyData.depthAll ds ≤ n
  | [], _ => Nat.zero_le _
  | d :: ds, h => by
    have h1 := h d List.mem_cons_self
    have h2 := dep_of fun e he => h e (List.mem_cons_of_mem d he)
    rw [PyData.depthAll]
    omega
theorem cnt_each {c : Nat} : ∀ ds : List D, (∀ d ∈ ds, cntD d ≤ c) → cntAll ds ≤ ds.length * c
  | [], _ => by rw [cntAll]; exact Nat.zero_le _
  | d :: ds, h => by
    rw [cntAll, List.length_cons, Nat.succ_mul]
    have h1 := h d List.mem_cons_self
    have h2 := cnt_each ds fun x hx => h x (List.mem_cons_of_mem _ hx)
    omega
/-- what is asked of a body that the law draws -/
structure Small (ds : List D) : Prop where
  sh : shAll ds = true
  len : (flat ds).length ≤ 8
  cnt : cntAll ds ≤ 200
  dep : ∀ d ∈ flat ds, d.depth ≤ 15
theorem Small.of {ds : List D} {s : Nat} (dr : Dr 0 s ds) (hs : s ≤ 8) (lg : Lg 0 [] ds) : Small ds := by
  have fz := dr.its.fits (n := 16) (by have := dr.brs.len; omega) (by omega)
  have hl := dr.brs.len
  have hc := dr.its.cnt
  exact ⟨sh_legal _ ds 0 (Nat.lt_succ_self _) lg.mis0, by omega, by omega, fun d hd => by have := (flat_fit 16 ds fz d hd).dep; omega⟩
theorem Small.rows {ds : List D} (h : Small ds) : ∀ r ∈ rowsOf ds 0 (flat ds).length [], shB (rowD r) = true ∧ cntD (rowD r) ≤ 230 ∧ (rowD r).depth ≤ 17 :=
  row_small h.sh h.len h.cnt (by exact h.dep) (fun l hl => wa_two _ ds (Nat.lt_succ_self _) _ _ l hl)
/-- the list of the rows, shown -/
theorem Small.show_rows {ds : List D} (h : Small ds) : (PyData.list ((rowsOf ds 0 (flat ds).length []).map rowD)).hasDict = false ∧ (PyData.list ((rowsOf ds 0 (flat ds).length []).map rowD)).showable = true ∧
    (PyData.list ((rowsOf ds 0 (flat ds).length []).map rowD)).depth ≤ 40 ∧ (PyData.list ((rowsOf ds 0 (flat ds).length []).map rowD)).shown.length ≤ sizeLine := by
  refine small_show (shAll_mem fun d hd => ?_) ?_ (dep_of fun d hd => ?_)
  · obtain ⟨r, hr, rfl⟩ := List.mem_map.mp hd
    exact (h.rows r hr).1
  · have z := cnt_each (c := 230) ((rowsOf ds 0 (flat ds).length []).map rowD) fun d hd => by
      obtain ⟨r, hr, rfl⟩ := List.mem_map.mp hd
      exact (h.rows r hr).2.1
    rw [List.length_map, rows_len] at z
    have := h.len
    have := Nat.mul_le_mul_right 230 this
    omega
  · obtain ⟨r, hr, rfl⟩ := List.mem_map.mp hd
    have := (h.rows r hr).2.2
    omega
/-- the list of the items, shown -/
theorem Small.show_items {ds : List D} (h : Small ds) : (PyData.list (flat ds)).hasDict = false ∧ (PyData.list (flat ds)).showable = true ∧ (PyData.list (flat ds)).depth ≤ 40 ∧ (PyData.list (flat ds)).shown.length ≤ sizeLine := by
  refine small_show (shAll_mem fun d hd => (sh_flat _ ds (Nat.lt_succ_self _) h.sh d hd).1) ?_ (dep_of fun d hd => by have := h.dep d hd; omega)
  have z := cnt_each (c := 200) (flat ds) fun d hd => by
    have a := (sh_flat _ ds (Nat.lt_succ_self _) h.sh d hd).2
    have b := h.cnt
    omega
  have := h.len
  have := Nat.mul_le_mul_right 200 this
  omega
theorem rows_items (ds : List D) : (rowsOf ds 0 (flat ds).length []).map (·.1) = flat ds := by
  unfold rowsOf zip3
  rw [List.map_fst_zip]
  rw [List.length_zip, wa_len, hl_len]
  omega
end Tr

/-! K27 -/
/-! ### an own class: in, an index, len -/
namespace L2
open PySem PySem.Spec PyProof.Rows
section
variable {X : Cx} {CX : CXT} {k : Nat} {f C : Addr} {fd : FuncData} {ps : List Str} {sp : Sp} {pins : List (Addr × Obj)} {σ : St} {H : Hp} {s : Shared}
/-- a def that is run one level deeper -/
theorem run_in1 {E : XK} {Q : VK} {us : List Value} {vs : List V} (F : FnOk X.prog X.w X.K X.mg X.base CX k f fd ps sp) (hr : Room (k + 1) X.A) (hb : Binds X.K fd ps []) (hx : PassesAt CX X σ E) (I : Inv X pins σ H s) (r : Vals vs us) (h : sp vs H Q E) :
    wpAny (model X.prog X.w) X.A.in1 (call (.ref f) us) (EP X pins σ Q) X.xe s := by
  have env : Env0 X.prog X.w X.K X.mg X.base X.A.in1 X.stack s H := by
    have e := I.env0
    exact ⟨e.frames, e.mod, e.bs, e.bsz, e.funs, e.frf, e.hok, e.bare⟩
  have many : (us ++ []).length = ps.length := by rw [List.append_nil, ← r.length]; exact F.len _ _ _ _ h
  have bind := hb s us I.kIn many
  rw [List.append_nil] at bind
  refine wpAny_call (codeAny_mono (F.run X.A.in1 X.stack s H ⟨us, []⟩ us vs Q E hr.in1 env bind r h) fun r s' hq => ?_)
  cases r with
  | error e => exact hx pins H s e s' I hq
  | ok fl =>
    cases fl with
    | ret u => exact I.after hq
    | next => exact False.elim hq
    | brk => exact False.elim hq
    | cont => exact False.elim hq
/-- x in obj, by an own __contains__ that gives a truth value -/
def rInOwn (C : Addr) (sp : Sp) (E : XK) (neg : Bool) : R2 := fun x y H Q => ∃ (a dx : Addr) (fs : List (Str × V)), y = .ref a ∧ H a = some (.ins C dx fs) ∧ sp [.ref a, x] H (fun v H' => ∃ b : Bool, v = .bl b ∧ Q (.bl (if neg then !b else b)) H') E
theorem truthy_bl {A : Around} {E : Value → Shared → Prop} {b : Bool} {Q : Bool → Shared → Prop} (h : Q b s) : wpAny (model X.prog X.w) A (truthy (.bool b)) Q E s := wpAny_truthy_bool h
theorem op_inOwn {E : XK} (hs : PySem.W.findIn X.K (.ref C) "__contains__" = some (some (.ref f))) (hf : PySem.W.isFn X.K (.ref f) = true) (F : FnOk X.prog X.w X.K X.mg X.base CX k f fd ps sp) (hr : Room k X.A) (hb : Binds X.K fd ps []) (hx : Passes CX X E) : OpR X (compareOp .In) (rInOwn C sp E false) := by
  intro pins s σ H x y v u Q I rx ry h
  obtain ⟨a, dx, fs, rfl, ha, q⟩ := h
  cases ry
  obtain ⟨mA, J, _⟩ := ins_get I.hok ha
  obtain ⟨od, J, _⟩ := J.look
  obtain ⟨m, hF⟩ := I.fr
  refine PySem.W.in_K hF I.ok.mod.kin J hs hf (thn (run_fn (us := [.ref a, v]) (vs := [.ref a, x]) F hr hb .nil hx I (.cons rfl (.cons rx .nil)) q) fun r s' ⟨z, H', I', rz, b, ez, q'⟩ => ?_)
  subst ez
  cases rz
  exact truthy_bl ⟨.bl b, H', I', rfl, q'⟩
theorem op_notInOwn {E : XK} (hs : PySem.W.findIn X.K (.ref C) "__contains__" = some (some (.ref f))) (hf : PySem.W.isFn X.K (.ref f) = true) (F : FnOk X.prog X.w X.K X.mg X.base CX k f fd ps sp) (hr : Room k X.A) (hb : Binds X.K fd ps []) (hx : Passes CX X E) : OpR X (compareOp .NotIn) (rInOwn C sp E true) := by
  intro pins s σ H x y v u Q I rx ry h
  obtain ⟨a, dx, fs, rfl, ha, q⟩ := h
  cases ry
  obtain ⟨mA, J, _⟩ := ins_get I.hok ha
  obtain ⟨od, J, _⟩ := J.look
  obtain ⟨m, hF⟩ := I.fr
  refine PySem.W.notIn_K hF I.ok.mod.kin J hs hf (thn (run_fn (us := [.ref a, v]) (vs := [.ref a, x]) F hr hb .nil hx I (.cons rfl (.cons rx .nil)) q) fun r s' ⟨z, H', I', rz, b, ez, q'⟩ => ?_)
  subst ez
  cases rz
  exact truthy_bl ⟨.bl (!b), H', I', rfl, q'⟩
/-- len(obj), by an own __len__ -/
theorem call_lenOwn {E : XK} (hs : PySem.W.findIn X.K (.ref C) "__len__" = some (some (.ref f))) (hf : PySem.W.isFn X.K (.ref f) = true) (F : FnOk X.prog X.w X.K X.mg X.base CX k f fd ps sp) (hr : Room (k + 1) X.A) (hb : Binds X.K fd ps []) (hx : Passes CX X E) :
    CallR X (.builtin "len") (fun xs H Q => ∃ (a dx : Addr) (fs : List (Str × V)), xs = [.ref a] ∧ H a = some (.ins C dx fs) ∧ sp [.ref a] H (fun v H' => ∃ n : Int, v = .int n ∧ 0 ≤ n ∧ n < 2 ^ 63 ∧ Q (.int n) H') E) := by
  intro pins s σ H xs us Q I r h
  obtain ⟨a, dx, fs, rfl, ha, q⟩ := h
  rw [Vals.ref1 r]
  obtain ⟨mA, J, _⟩ := ins_get I.hok ha
  obtain ⟨od, J, _⟩ := J.look
  obtain ⟨m, hF⟩ := I.fr
  refine PySem.W.len_K hF I.ok.mod.kin J hs hf (thn (run_in1 (us := [.ref a]) (vs := [.ref a]) F hr hb (fun pins H s e s' I c => hx pins _ H s e s' I c) I (.cons rfl .nil) q) fun r s' ⟨z, H', I', rz, n, ez, h0, h1, q'⟩ => ?_)
  subst ez
  obtain ⟨t, rfl⟩ := rz
  exact ⟨⟨h0, h1⟩, ⟨.int n, H', I'.tok _, ⟨_, rfl⟩, q'⟩⟩
/-- obj[i], by an own __getitem__, that may raise -/
def rIxOwn (C : Addr) (sp : Sp) (E : XK) : R2 := fun x y H Q => ∃ (a dx : Addr) (fs : List (Str × V)), x = .ref a ∧ H a = some (.ins C dx fs) ∧ sp [.ref a, y] H Q E
/-- obj[i] within a try -/
theorem pe_ixTS {E : St → XK} {a b : Expr} {ta tb : TE} {pos : Pos} {K : PySem.W.Frag} (hK : X.K = K) (hs : PySem.W.findIn K (.ref C) "__getitem__" = some (some (.ref f))) (hn : PySem.W.fnIn K f = true) (hf : PySem.W.isFn K (.ref f) = true) (F : FnOk X.prog X.w X.K X.mg X.base CX k f fd ps sp) (hr : Room (k + 1) X.A) (hb : Binds X.K fd ps []) (hx : ∀ σ, PassesAt CX X σ (E σ)) (ha : PE X a ta) (hb' : PE X b tb)
    (hsl : ∀ (x i : Value), subscripted b true x i = runValue (.builtin "lifetime.subscript" ⟨[x, i], []⟩)) : PE X (.Subscript a b pos) (fun σ H Q => ta σ H fun x H1 => tb σ H1 fun y H2 => rIxOwn C sp (E σ) x y H2 Q) := by
  subst hK
  refine ⟨fun pins s σ H Q I h => ?_⟩
  refine Subscript_ (binT (R := fun x y H2 => rIxOwn C sp (E σ) x y H2 Q) ha hb' I h fun v u s2 x y H2 I2 rx ry q => ?_)
  obtain ⟨o, dx, fs, rfl, ho, q⟩ := q
  cases (show v = Value.ref o from rx)
  obtain ⟨mA, J, _⟩ := ins_get I2.hok ho
  obtain ⟨od, J, _⟩ := J.look
  obtain ⟨m, hF⟩ := I2.fr
  exact PySem.W.sub_K hF I2.ok.mod.kin J hs hn hf (run_in1 (us := [.ref o, u]) (vs := [.ref o, y]) F hr hb (hx σ) I2 (.cons rfl (.cons ry .nil)) q) (hsl _ _)
end
end L2

/-! K28 -/
/-! ### all items of order -/
namespace Tr
open PySem PySem.Spec PyProof.Rows L2 Rw GenW
/-- the reading of [item for item in order(items)] -/
theorem ord_read {K : PySem.W.Frag} {n i j : Nat} {σ : L2.St} {H : Hp} {Q : VK} {E : L2.St → XK} {p : Addr} {xs : List V} {ds : List D} (hv : σ[j]? = some (some (.ref p))) (hi : i < σ.length) (hp : SqT K H p xs) (ha : DpAll K H xs ds) (ft : Fits n ds) (br : ∀ d ∈ flat ds, BrOk d) (hz : (flat ds).length ≤ 800)
    (q : ∀ D H' acc, Same H H' → H D = none → H' D = some (.lst acc) → DpAll K H' acc (flat ds) → Q (.ref D) H') : tLcg (tCallGs (spOrd K n) [] E (tCons (tVar j) tNil)) (tVar i) i σ H Q := by
  refine ⟨fun k acc H' => Same H H' ∧ DpAll K H' acc ((flat ds).take k), ?_⟩
  refine ⟨_, hv, ⟨Same.refl _, .nil⟩, p, xs, ds, rfl, hp, ha, ft, br, hz, fun g H1 H2 s12 hC => ?_, fun g H1 d x s1 hC hd hx => ?_, fun g H1 s1 hC hg => ?_⟩
  · obtain ⟨acc, ha, s0, al⟩ := hC
    exact ⟨acc, ha, s0.trans s12, al.same s12⟩
  · obtain ⟨acc, ha, s0, al⟩ := hC
    have la := dpl al
    rw [List.length_take] at la
    refine ⟨acc, ha, by rw [sizeLine_eq]; omega, fun D Hc nD eD sc => ?_⟩
    refine ⟨_, by rw [List.getElem?_set_self (by simpa using hi)], fun b o e => e, fun H9 g1 g2 => ⟨s1.trans g1, ?_⟩⟩
    rw [take_snoc hd]
    exact dp_app (al.same g1) (DpAll.same (.cons hx .nil) (s1.trans g1))
  · obtain ⟨acc, ha, s0, al⟩ := hC
    rw [hg, List.take_length] at al
    exact ⟨acc, ha, fun D nD => q D _ acc (s0.trans (same_upd nD)) (s0.free nD) upd_same (al.same (same_upd nD))⟩
end Tr

/-! K29 -/
/-! ### a body's row at a place -/
namespace Tr
open PySem PySem.Spec PyProof.Rows L2 Rw
theorem body_row {K : PySem.W.Frag} {C a : Addr} {H : Hp} {v : V} {ds : List D} (h : IsBody K C H a v ds) {i : Nat} (hi : i < (flat ds).length) : ∃ (dx l1 l2 l3 : Addr) (ys zs us : List V) (x u1 u2 : V) (r : Row3),
    H a = some (.ins C dx [("_code", v), ("_listed", .ref l1), ("_ways", .ref l2), ("_held", .ref l3)]) ∧ H l1 = some (.lst ys) ∧ H l2 = some (.lst zs) ∧ H l3 = some (.lst us) ∧ ys.length = (flat ds).length ∧ zs.length = (flat ds).length ∧ us.length = (flat ds).length + 1 ∧
    ys[i]? = some x ∧ zs[i]? = some u1 ∧ us[i]? = some u2 ∧ (rowsOf ds 0 (flat ds).length [])[i]? = some r ∧ Dp K H x r.1 ∧ WayT K H u1 r.2.1 ∧ TxtT K H u2 r.2.2 := by
  obtain ⟨dx, l1, l2, l3, ys, zs, us, h0, hv, h1, a1, h2, a2, h3, a3⟩ := h
  have n1 := dpl a1
  have n2 := a2.length
  have n3 := a3.length
  rw [wa_len] at n2
  rw [List.length_append, hl_len] at n3
  have n3 : us.length = (flat ds).length + 1 := n3
  have e1 : ys[i]? = some ys[i] := List.getElem?_eq_getElem (by omega)
  have e2 : zs[i]? = some zs[i] := List.getElem?_eq_getElem (by omega)
  have e3 : us[i]? = some us[i] := List.getElem?_eq_getElem (by omega)
  obtain ⟨d, f1, g1⟩ := dp_get a1 e1
  obtain ⟨w, f2, g2⟩ := a2.get e2
  obtain ⟨t, f3, g3⟩ := a3.get e3
  rw [List.getElem?_append_left (by rw [hl_len]; exact hi)] at f3
  refine ⟨dx, l1, l2, l3, ys, zs, us, _, _, _, (d, w, t), h0, h1, h2, h3, n1, n2, n3, e1, e2, e3, ?_, g1, g2, g3⟩
  unfold rowsOf zip3
  exact List.getElem?_zip_eq_some.mpr ⟨f1, List.getElem?_zip_eq_some.mpr ⟨f2, f3⟩⟩
/-- the triple at a place is the row's -/
theorem row_new {K : PySem.W.Frag} {H H' : Hp} {t : Addr} {x u1 u2 : V} {r : Row3} (h1 : Dp K H x r.1) (h2 : WayT K H u1 r.2.1) (h3 : TxtT K H u2 r.2.2) (s : Same H H') (e : H' t = some (.tup [x, u1, u2])) : RowT3 K H H' (.ref t) r :=
  ⟨t, x, u1, u2, rfl, SqT.of e, h1, h2.same s, h3.same s⟩
end Tr

/-! K30 -/
namespace Tr
open PySem PySem.Spec PyProof.Rows L2 Rw
def leS (a b : Str) : Prop := a.cps.toList ≤ b.cps.toList
theorem leS_of {a b : Str} (h : (!ltCps b.cps.toList a.cps.toList) = true) : leS a b := by
  rw [ltCps_eq] at h
  have h' : ¬ b.cps.toList < a.cps.toList := by simpa using h
  exact h'
theorem rising_pw : ∀ (p : Str) (l : List Str), risingS p l = true → (p :: l).Pairwise leS
  | p, [], _ => List.pairwise_singleton _ _
  | p, x :: r, h => by
    have h2 : ((!ltCps x.cps.toList p.cps.toList) && risingS x r) = true := h
    obtain ⟨a, b⟩ := Bool.and_eq_true_iff.mp h2
    have pw := rising_pw x r b
    refine List.pairwise_cons.mpr ⟨fun y hy => ?_, pw⟩
    rcases List.mem_cons.mp hy with rfl | hy
    · exact leS_of a
    · exact List.le_trans (leS_of a) ((List.pairwise_cons.mp pw).1 y hy)
theorem sorted_pw (l : List Str) (h : sortedS l = true) : l.Pairwise leS := by
  cases l with
  | nil => exact List.Pairwise.nil
  | cons x r => exact rising_pw x r h
theorem sorted_one {as bs : List Str} (h1 : sortedS as = true) (h2 : sortedS bs = true) (p : as.Perm bs) : as = bs := by
  refine p.eq_of_pairwise (le := leS) (fun a b _ _ h3 h4 => ?_) (sorted_pw _ h1) (sorted_pw _ h2)
  have e : a.cps.toList = b.cps.toList := List.le_antisymm h3 h4
  cases a
  cases b
  congr
  exact Array.toList_inj.mp e

end Tr
namespace Tr
open PySem PySem.Spec PyProof.Rows L2 Rw
/-- the names that the program tells and those that the law does -/
theorem names_one {ws vs : List Str} {ds : List D} {ys zs : List Str} (h : ∀ x, x ∈ ws ↔ x ∈ vs) (p1 : ys.Perm (namesF ws ds)) (s1 : sortedS ys = true) (p2 : zs.Perm (namesF vs ds)) (s2 : sortedS zs = true) : ys = zs :=
  sorted_one s1 s2 (p1.trans ((namesF_perm h ds).trans p2.symm))
theorem flag_mem : ∀ x, x ∈ flagW ↔ x ∈ (["set", "clear", "test"] : List Str) := by
  intro x
  unfold flagW
  simp only [List.mem_cons, List.mem_nil_iff, or_false]
  constructor
  · rintro (h | h | h)
    · exact .inr (.inr h)
    · exact .inl h
    · exact .inr (.inl h)
  · rintro (h | h | h)
    · exact .inr (.inl h)
    · exact .inr (.inr h)
    · exact .inl h
theorem flag_named : ∀ x ∈ flagW, x ∈ named8 := by decide +kernel
theorem lock_named : ∀ x ∈ lockW, x ∈ named8 := by decide +kernel
theorem work_named : ∀ x ∈ workW, x ∈ named8 := by decide +kernel
theorem start_named : ∀ x ∈ (["start"] : List Str), x ∈ named8 := by decide +kernel
end Tr

/-! K31 -/
/-! ### what is asked of a drawn body; how its names are told -/
namespace Tr
open PySem PySem.Spec PyProof.Rows L2 Rw GenW
theorem passF {X : Cx} {P : Program} {w : World} : Passes (L2.CX P w) X (fun _ _ _ => False) := fun _ _ _ _ _ _ _ h => by
  obtain ⟨_, _, _, _, _, _, _, _, _, _, _, _, f⟩ := h
  exact f.elim
/-- a body that the law draws -/
structure RtD (ds : List D) : Prop where
  dr : Dr 0 8 ds
  lg : Lg 0 [] ds
  ne : ds ≠ []
theorem RtD.len {ds : List D} (h : RtD ds) : (flat ds).length ≤ 8 := h.dr.brs.len
theorem RtD.fits {ds : List D} (h : RtD ds) : Fits 16 ds := h.dr.its.fits (by have := h.len; omega) (by omega)
theorem RtD.fit {ds : List D} (h : RtD ds) : FitD 17 (.tuple ds) := FitD.wrap h.fits (by have := h.dr.its.cnt; have := h.len; omega)
theorem RtD.pc {ds : List D} (h : RtD ds) : ∀ d ∈ flat ds, BrOk d ∧ PcOk d := legal_pc h.lg.mis0
theorem RtD.br {ds : List D} (h : RtD ds) : ∀ d ∈ flat ds, BrOk d := fun d hd => (h.pc d hd).1
theorem RtD.few {ds : List D} (h : RtD ds) : (flat ds).length ≤ 800 := by have := h.len; omega
theorem RtD.nm {ds : List D} (h : RtD ds) {ws : List Str} (k : ∀ x ∈ ws, x ∈ named8) : ∀ d ∈ fwp ds, NmOk ws d := fun d hd => (legal_nm h.lg.mis0 d hd).sub k
theorem RtD.l64 {ds : List D} (h : RtD ds) : (fwp ds).length < 64 := legal_len h.lg.mis0 h.len
theorem RtD.sound {ds : List D} (h : RtD ds) : faultO (some (.tuple ds)) = none := h.lg.fault h.ne h.len
theorem RtD.small {ds : List D} (h : RtD ds) : Small ds := Small.of h.dr (Nat.le_refl 8) h.lg
theorem fit_fork {n : Nat} {a b : D} {ws : List D} (h : FitD n (.tuple [a, b, .tuple ws])) : ∃ k, Fits k ws := by
  cases n with
  | zero => exact absurd h.dep (Nat.not_lt_zero _)
  | succ n =>
    have z := h.inside.mem (d := .tuple ws) (by simp)
    cases n with
    | zero => exact absurd z.dep (Nat.not_lt_zero _)
    | succ n => exact ⟨n, z.inside⟩
theorem fwp_good {n : Nat} {ds : List D} (ft : Fits n ds) (pc : ∀ d ∈ flat ds, BrOk d ∧ PcOk d) : ∀ d ∈ fwp ds, goodD d = true := by
  intro d hd
  unfold fwp at hd
  obtain ⟨e, he, hd⟩ := List.mem_flatMap.mp hd
  have fe := flat_fit n ds ft e he
  rcases List.mem_cons.mp hd with rfl | hd
  · exact fe.good
  · by_cases hw : wD e = "piece"
    · obtain ⟨m, ws, rfl, _⟩ := (pc e he).2 hw
      rw [pcs_piece] at hd
      obtain ⟨k, fk⟩ := fit_fork fe
      exact (flat_fit k ws fk d hd).good
    · rw [pcs_none hw] at hd
      cases hd
theorem names_ok {ws : List Str} {ds : List D} (hg : ∀ d ∈ ds, goodD d = true) (nm : ∀ d ∈ ds, NmOk ws d) : ∀ n ∈ namesF ws ds, sOk n := by
  intro n hn
  obtain ⟨d, hd, hw, rfl⟩ := (namesF_mem ws ds n).mp hn
  obtain ⟨w, r, rfl, k⟩ := nm d hd
  obtain ⟨m, r', rfl⟩ := k hw
  have z := hg _ hd
  rw [goodD, goodAll, goodAll, goodD, goodD] at z
  simp only [Bool.and_eq_true] at z
  exact z.2.1.1
theorem RtD.names_ok {ds : List D} (h : RtD ds) {ws : List Str} (k : ∀ x ∈ ws, x ∈ named8) : ∀ n ∈ namesF ws (fwp ds), sOk n :=
  Tr.names_ok (fwp_good h.fits h.pc) (h.nm k)
/-- two lists of names that are one -/
theorem ne_names {K : PySem.W.Frag} {H : Hp} {p r : Addr} {ns : List Str} (ok : ∀ n ∈ ns, sOk n) (e1 : H p = some (.lst (ns.map V.str))) (e2 : H r = some (.lst (ns.map V.str))) {Q : VK} (q : Q (.bl false) H) : rNeD K (.ref p) (.ref r) H Q := by
  refine ⟨.list (ns.map PyData.str), .list (ns.map PyData.str), .lst (SqL.of e1) (dp_txts ns), .lst (SqL.of e2) (dp_txts ns), listD_shaped ok, listD_shaped ok, ?_⟩
  rw [eqv_list_txt, decide_eq_true rfl]
  exact q
theorem eq_names {K : PySem.W.Frag} {H : Hp} {p r : Addr} {ns : List Str} (ok : ∀ n ∈ ns, sOk n) (e1 : H p = some (.lst (ns.map V.str))) (e2 : H r = some (.lst (ns.map V.str))) {Q : VK} (q : Q (.bl true) H) : rEqD K (.ref p) (.ref r) H Q := by
  refine ⟨.list (ns.map PyData.str), .list (ns.map PyData.str), .lst (SqL.of e1) (dp_txts ns), .lst (SqL.of e2) (dp_txts ns), listD_shaped ok, listD_shaped ok, ?_⟩
  rw [eqv_list_txt, decide_eq_true rfl]
  exact q
theorem neS (v : V) : (!decide (v = v)) = false := by rw [decide_eq_true rfl]; rfl
mutual
theorem sh_refl : ∀ d : D, shB d = true → PyData.eqv d d = true
  | .str z, _ => by simp [PyData.eqv]
  | .int i, _ => by simp [PyData.eqv]
  | .tuple ds, s => by
    rw [shB] at s
    rw [PyData.eqv]
    exact sh_reflAll ds s
  | .none, h => by rw [shB] at h <;> first | (cases h; done) | (intros; simp)
  | .list _, h => by rw [shB] at h <;> first | (cases h; done) | (intros; simp)
  | .bool _, h => by rw [shB] at h <;> first | (cases h; done) | (intros; simp)
  | .dict _, h => by rw [shB] at h <;> first | (cases h; done) | (intros; simp)
theorem sh_reflAll : ∀ ds : List D, shAll ds = true → PyData.eqvAll ds ds = true
  | [], _ => by rw [PyData.eqvAll]
  | d :: ds, s => by
    rw [shAll, Bool.and_eq_true] at s
    rw [PyData.eqvAll, sh_refl d s.1, sh_reflAll ds s.2]
    rfl
end
theorem RtD.refl {ds : List D} (h : RtD ds) : PyData.eqv (.tuple ds) (.tuple ds) = true := sh_refl _ (by rw [shB]; exact h.small.sh)
/-- the names that a body's own method tells -/
theorem told {K : PySem.W.Frag} {C x p : Addr} {xs : List V} {ds : List D} {ws : List Str} {m : Str} {i : Nat} {σ : L2.St} {H : Hp} {Q : VK} {E : XK} (hb : IsBody K C H x (.ref p) ds) (ok : RtD ds) (hp : SqT K H p xs) (ha : DpAll K H xs ds) (k : ∀ x ∈ ws, x ∈ named8)
    (hm : ∀ a b c d : V, List.lookup m [(("_code" : Str), a), ("_listed", b), ("_ways", c), ("_held", d)] = none) (hv : σ[i]? = some (some (.ref x)))
    (q : ∀ H' l ys, Same H H' → H l = none → H' l = some (.lst (ys.map V.str)) → ys.Perm (namesF ws (fwp ds)) → sortedS ys = true → Q (.ref l) H') : tMeth C m (spNb K C 16 ws) [] E (tVar i) tNil σ H Q := by
  obtain ⟨dx, l1, l2, l3, ys, zs, us, h0, _⟩ := hb
  exact ⟨_, hv, x, dx, _, rfl, h0, hm _ _ _ _, x, dx, p, _, xs, ds, rfl, h0, rfl, hp, ha, ok.fits, ok.pc, ok.few, ok.nm k, ok.l64, q⟩
theorem said_ln {K : PySem.W.Frag} {p lw : Addr} {xs : List V} {ds : List D} {vs : List Str} {H0 H : Hp} {Q : VK} {E : XK} (ok : RtD ds) (s : Same H0 H) (hp : SqT K H p xs) (ha : DpAll K H0 xs ds) (k : ∀ x ∈ vs, x ∈ named8) (e : H lw = some (.lst (vs.map V.str)))
    (q : ∀ H' l ys, Same H H' → H l = none → H' l = some (.lst (ys.map V.str)) → ys.Perm (namesF vs (fwp ds)) → sortedS ys = true → Q (.ref l) H') : spLn K 16 [.ref p, .ref lw] H Q E :=
  ⟨H0, p, lw, xs, ds, vs, rfl, s, hp, ha, ok.fits, ok.pc, ok.few, fun _ s' => SqL.of (s' _ _ e), ok.nm k, ok.l64, q⟩
theorem RtD.all_ok {ds : List D} (h : RtD ds) {ws ys : List Str} (k : ∀ x ∈ ws, x ∈ named8) (p : ys.Perm (namesF ws (fwp ds))) : ∀ n ∈ ys, sOk n := fun n hn => h.names_ok k n (p.mem_iff.mp hn)
/-- a new body -/
theorem made_at {K : PySem.W.Frag} {C CI : Addr} {H : Hp} {F : Addr → Hp → Prop} {E : XK} {p : Addr} {xs : List V} {ds : List D} (ok : RtD ds) (hp : SqT K H p xs) (ha : DpAll K H xs ds)
    (q : ∀ H' x, Same H H' → H x = none → IsBody K C H' x (.ref p) ds → F x H') : ∀ x dx, H x = none → H dx = none → dx ≠ x → spBI K C CI 17 [.ref x, .ref p] (upd (upd H dx (.own x)) x (.ins C dx [])) (fun v H2 => v = .non ∧ F x H2) E := by
  intro x dx nx ndx hne
  have s1 : Same H (upd (upd H dx (.own x)) x (.ins C dx [])) := (same_upd ndx).trans (same_upd (by rw [upd_ne (Ne.symm hne)]; exact nx))
  refine ⟨x, dx, .ref p, some (.tuple ds), rfl, upd_same, ⟨(Dp.tup hp ha).same s1, ok.fit⟩, fun _ ds' e H' b ib => ⟨rfl, q H' x (fun a o h => b a o (fun z => ?_) (s1 a o h)) nx (by cases e; exact ib)⟩, fun r hr => ?_⟩
  · rw [z, nx] at h
    cases h
  · rw [ok.sound] at hr
    cases hr
theorem made {K : PySem.W.Frag} {C CI : Addr} {i : Nat} {σ : L2.St} {H : Hp} {Q : VK} {E : XK} {p : Addr} {xs : List V} {ds : List D} (ok : RtD ds) (hv : σ[i]? = some (some (.ref p))) (hp : SqT K H p xs) (ha : DpAll K H xs ds)
    (q : ∀ H' x, Same H H' → H x = none → IsBody K C H' x (.ref p) ds → Q (.ref x) H') : tMake C (spBI K C CI 17) [] E (tCons (tVar i) tNil) σ H Q :=
  ⟨_, hv, made_at (F := fun x H2 => Q (.ref x) H2) ok hp ha q⟩
end Tr

/-! K32 -/
/-! ### the law's right -/
namespace Tr
open PySem PySem.Spec PyProof.Rows L2 Rw GenW
theorem asg_in {te : TE} {g : TG} {D : Ends} {σ : L2.St} {H : Hp} (h : te σ H fun x H1 => g x σ H1 D.nx) : tAsg te g D σ H := h
theorem tup_in {ta : TA} {σ : L2.St} {H : Hp} {Q : VK} (h : ta σ H fun vs H1 => vs.length ≤ sizeLine ∧ ∀ p, H1 p = none → Q (.ref p) (upd H1 p (.tup vs))) : tTup ta σ H Q := h
theorem drop_in {te : TE} {D : Ends} {σ : L2.St} {H : Hp} (h : te σ H fun _ H1 => D.nx σ H1) : tDrop te D σ H := h
theorem bm_in {K : PySem.W.Frag} {T : String} {r : V → List V → Hp → VK → Prop} {to : TE} {t : TA} {σ : L2.St} {H : Hp} {Q : VK} (h : to σ H fun x H1 => tyV K T x H1 ∧ t σ H1 fun xs H2 => r x xs H2 Q) : tBM K T r to t σ H Q := h
theorem yes_in {σ : L2.St} {H : Hp} {Q : Bool → Hp → Prop} (h : Q true H) : tYes σ H Q := h
theorem nil_in {σ : L2.St} {H : Hp} {Q : List V → Hp → Prop} (h : Q [] H) : tNil σ H Q := h
theorem par_in {i j l : Nat} {ta : TA} {D : Ends} {σ : L2.St} {H : Hp} (h : ta σ H fun vs H1 => ∃ u v w, vs = [u, v, w] ∧ D.nx (((σ.set i (some u)).set j (some v)).set l (some w)) H1) : tPar3 i j l ta D σ H := h
theorem cons_in {te : TE} {ta : TA} {σ : L2.St} {H : Hp} {Q : List V → Hp → Prop} (h : te σ H fun v H1 => ta σ H1 fun vs H2 => Q (v :: vs) H2) : tCons te ta σ H Q := h
def spRt (K : PySem.W.Frag) : Sp := fun vs H Q _ => ∃ (p : Addr) (xs : List V) (ds : List D), vs = [.ref p] ∧ SqT K H p xs ∧ DpAll K H xs ds ∧ RtD ds ∧ ∀ H', Same H H' → Q (.bl true) H'
section
variable {P : Program} {w : World} {K : PySem.W.Frag} {mg : Str → Option Value} {base : Heap}
abbrev sRt : Stmt := top 56
theorem scRt : FnScope ["_law_items", "_law_body", "_law_rows", "_law_size_here", "_law_heard", "_law_place", "_law_item", "_law_row"] ["_law_items"] (defScope sRt) := ⟨rfl, rfl, rfl, by decide +kernel, rfl, by decide +kernel, by decide +kernel⟩
theorem ok_rt {f fB fF fZ fE fP fA fO fIB fY fI fN fH fFl fLk fWk pSz fSz pCo fCo fLn fEq C CI CN : Addr} {fd fdB fdF fdZ fdE fdP fdA fdO fdIB fdY fdI fdN fdH fdFl fdLk fdWk fdSz fdCo fdLn fdEq : FuncData} {nB : Str} (F : Fun K "_law_right" "_law_right" sRt f fd) (cl : Cls K C) (cc : TCls K C nB)
    (gB : mg "Body" = some (.ref C)) (mB : Mk K C fB) (GB : FnOk P w K mg base (L2.CX P w) 38 fB fdB ["self", "items"] (spBI K C CI 17)) (bB : Binds K fdB ["self", "items"] [])
    (GF : FnOk P w K mg base CX0 19 fF fdF ["_law_items", "_law_start", "_law_follow", "_law_held"] (spLF3 K 16)) (TF : Called K mg "_law_flat" ["_law_items", "_law_start", "_law_follow", "_law_held"] fF fdF)
    (GZ : FnOk P w K mg base CX0 18 fZ fdZ ["_law_items"] (spSz K 16)) (TZ : Called K mg "_law_size" ["_law_items"] fZ fdZ)
    (GI : FnOk P w K mg base (L2.CX P w) 3 fI fdI ["self", "place"] (spAt K C CN "_listed" "_listed")) (bI : Binds K fdI ["self", "place"] []) (MI : Meth K C "item" fI)
    (GN : FnOk P w K mg base (L2.CX P w) 3 fN fdN ["self", "place"] (spAt K C CN "_listed" "_ways")) (bN : Binds K fdN ["self", "place"] []) (MN : Meth K C "nexts" fN)
    (GH : FnOk P w K mg base (L2.CX P w) 3 fH fdH ["self", "place"] (spAt K C CN "_held" "_held")) (bH : Binds K fdH ["self", "place"] []) (MH : Meth K C "held" fH)
    (GE : FnOk P w K mg base CX0 1 fE fdE ["_law_rows"] (spEn K)) (TE : Called K mg "_law_ends" ["_law_rows"] fE fdE)
    (GP : FnOkG P w K mg base CX0 5 fP fdP ["_law_body", "_law_most"] (spNoPl K C)) (TP : Called K mg "_law_no_place" ["_law_body", "_law_most"] fP fdP)
    (GA : FnOk P w K mg base CX0 19 fA fdA ["_law_items", "_law_words"] (spLn K 16)) (TA : Called K mg "_law_names_in" ["_law_items", "_law_words"] fA fdA)
    (GO : GFns P w K mg base 19 fO fdO ["items"] (spOrd K 16)) (TO : Called K mg "order" ["items"] fO fdO)
    (GFl : FnOk P w K mg base CX0 21 fFl fdFl ["self"] (spNb K C 16 flagW)) (bFl : Binds K fdFl ["self"] []) (MFl : Meth K C "flags" fFl)
    (GLk : FnOk P w K mg base CX0 21 fLk fdLk ["self"] (spNb K C 16 lockW)) (bLk : Binds K fdLk ["self"] []) (MLk : Meth K C "locks" fLk)
    (GWk : FnOk P w K mg base CX0 21 fWk fdWk ["self"] (spNb K C 16 workW)) (bWk : Binds K fdWk ["self"] []) (MWk : Meth K C "works" fWk)
    (GY : FnOk P w K mg base CX0 21 fY fdY ["items"] (spMy K 16)) (TY : Called K mg "may_start" ["items"] fY fdY)
    (GIB : FnOk P w K mg base CX0 38 fIB fdIB ["value"] (spIBO K 17)) (TIB : Called K mg "is_body" ["value"] fIB fdIB)
    (GSz : FnOk P w K mg base CX0 1 fSz fdSz ["self"] (spSzB C)) (bSz : Binds K fdSz ["self"] []) (PSz : PropOf K C "size" pSz fSz)
    (GCo : FnOk P w K mg base CX0 1 fCo fdCo ["self"] (getSp C "_code")) (bCo : Binds K fdCo ["self"] []) (PCo : PropOf K C "code" pCo fCo)
    (LN : PySem.W.findIn K (.ref C) "__len__" = some (some (.ref fLn)) ∧ PySem.W.isFn K (.ref fLn) = true) (GLn : FnOk P w K mg base CX0 1 fLn fdLn ["self"] (spSzB C)) (bLn : Binds K fdLn ["self"] [])
    (EC : PySem.W.findIn K (.ref C) "__eq__" = some (some (.ref fEq)) ∧ PySem.W.isFn K (.ref fEq) = true) (GEq : FnOk P w K mg base CX0 2 fEq fdEq ["self", "other"] (spEqB K C 16)) (bEq : Binds K fdEq ["self", "other"] [])
    (kT : PySem.W.kitOne K (.type "tuple") (.ref C) = some false) (nf1 : PySem.W.notFirst K C (.ref C) = true) (nf2 : PySem.W.notFirst K C (.type "tuple") = true)
    (m_range : mg "range" = none) (m_repr : mg "repr" = none) (m_len : mg "len" = none) : FnOkG P w K mg base CX0 40 f fd ["_law_items"] (spRt K) := by
  refine F.okG scRt (fun vs H Q E h => ?_) (fun cdv A outer s H vs Q E hgd hr h => ?_)
  · obtain ⟨p, xs, ds, rfl, _⟩ := h
    rfl
  · obtain ⟨p, xs, ds, rfl, hp, ha, ok, q⟩ := h
    refine ⟨_, (pss_cons (ps_asg (pe_tup (pa_cons (pe_make mB GB (hr.mono (by first | decide | omega)) rfl gB bB .nil passF (pa_cons (pv 0) pa_nil)) (pa_cons (pe_call GF (hr.mono (by first | decide | omega)) rfl TF.1 TF.2.1 TF.2.2 .nil pass0 (pa_cons (pv 0) (pa_cons pe_int (pa_cons (pe_call GZ (hr.mono (by first | decide | omega)) rfl TZ.1 TZ.2.1 TZ.2.2 .nil pass0 (pa_cons (pv 0) pa_nil)) (pa_cons (pe_tup pa_nil) pa_nil))))) (pa_cons (pe_call GZ (hr.mono (by first | decide | omega)) rfl TZ.1 TZ.2.1 TZ.2.2 .nil pass0 (pa_cons (pv 0) pa_nil)) pa_nil)))) (pg_tup rfl (pgs_cons (pg_name (i := 1) scRt.nd rfl (.inr rfl)) (pgs_cons (pg_name (i := 2) scRt.nd rfl (.inl rfl)) (pgs_cons (pg_name (i := 3) scRt.nd rfl (.inl rfl)) pgs_nil)))))
       (pss_cons (ps_setLc (i := 4) (own := [("_law_place", 5)]) (g := gName 5) (tt := tYes) (by rfl) scRt.nd rfl rfl (sw_true rfl rfl rfl (by decide +kernel)) (pi_range1 rfl m_range (pa_cons (pv 3) pa_nil)) (blkOk_by (own := [("_law_place", 5)]) (N := ["_law_items", "_law_body", "_law_rows", "_law_size_here", "_law_heard", "_law_place", "_law_item", "_law_row"]) (sc := defScope sRt) (by decide +kernel)) (fun _ _ _ _ _ => (pg_name (i := 5) scRt.nd rfl (Or.inl rfl))) (fun _ _ _ _ _ => pts_nil) (fun _ _ _ _ _ => (pe_tup (pa_cons (pe_meth (pv 1) cl MI GI (hr.mono (by first | decide | omega)) bI .nil passF (pa_cons (pv 5) pa_nil)) (pa_cons (pe_meth (pv 1) cl MN GN (hr.mono (by first | decide | omega)) bN .nil passF (pa_cons (pv 5) pa_nil)) (pa_cons (pe_meth (pv 1) cl MH GH (hr.mono (by first | decide | omega)) bH .nil passF (pa_cons (pv 5) pa_nil)) pa_nil))))))
       (pss_cons (ps_if (PW.pt (pw_or (pt_cmpR op_ne (pe_callB (call_reprDK (K := K) rfl hgd hr.units) (by rfl) m_repr (by decide +kernel) (pa_cons (pv 4) pa_nil)) (pe_callB (call_reprDK (K := K) rfl hgd hr.units) (by rfl) m_repr (by decide +kernel) (pa_cons (pv 2) pa_nil)) (nomark _)) (pw_or1 (pt_cmpR op_ne (pe_callB (call_reprDK (K := K) rfl hgd hr.units) (by rfl) m_repr (by decide +kernel) (pa_cons (pe_lcg (k := 19) (i := 6) (E := fun _ _ _ _ => False) rfl scRt.nd rfl rfl (hr.mono (by first | decide | omega)) (pgs_call GO (hr.mono (by first | decide | omega)) rfl TO.1 TO.2.1 TO.2.2 .nil (pa_cons (pv 0) pa_nil)) takes0 (fun _ _ _ _ h => h) (fun _ _ _ _ h => h.elim) (blkOk_by (own := [("_law_item", 6)]) (N := ["_law_items", "_law_body", "_law_rows", "_law_size_here", "_law_heard", "_law_place", "_law_item", "_law_row"]) (sc := defScope sRt) (by decide +kernel)) (by decide +kernel) rfl (fun _ _ _ _ => pg_var (i := 6) rfl (.inl rfl))) pa_nil)) (pe_callB (call_reprDK (K := K) rfl hgd hr.units) (by rfl) m_repr (by decide +kernel) (pa_cons (pe_lc (own := [("_law_row", 7)]) (g := gName 7) (tt := tYes) (by rfl) scRt.nd (pi_list (pv 2)) (blkOk_by (own := [("_law_row", 7)]) (N := ["_law_items", "_law_body", "_law_rows", "_law_size_here", "_law_heard", "_law_place", "_law_item", "_law_row"]) (sc := defScope sRt) (by decide +kernel)) (fun _ _ _ _ _ => (pg_name (i := 7) scRt.nd rfl (Or.inl rfl))) (fun _ _ _ _ _ => pts_nil) (fun _ _ _ _ _ => (pe_ix (ix_tupK (K := K) rfl) (pv 7) pe_int (fun _ _ => rfl)))) pa_nil)) (nomark _)))))
       (pss_one (ps_ret pe_bl))
       pss_nil)
       (pss_cons (ps_if (PW.pt (pw_or (pt_cmpR op_ne (pe_prop (pv 1) cl PSz GSz (hr.mono (by first | decide | omega)) bSz .nil pass0 rfl) (pv 3) (nomark _)) (pw_or (pt_cmpR op_ne (pe_callB (call_lenOwn LN.1 LN.2 GLn (hr.mono (by first | decide | omega)) bLn pass0) (by rfl) m_len PySem.boot_len (pa_cons (pv 1) pa_nil)) (pv 3) (nomark _)) (pw_or (pt_cmpR (Nm.op_neDK (K := K) rfl hr.units) (pe_meth (pv 1) cl MH GH (hr.mono (by first | decide | omega)) bH .nil passF (pa_cons (pv 3) pa_nil)) (pe_tup pa_nil) (nomark _)) (pw_or (pt_cmpR (Nm.op_neDK (K := K) rfl hr.units) (pe_prop (pv 1) cl PCo GCo (hr.mono (by first | decide | omega)) bCo .nil pass0 rfl) (pv 0) (nomark _)) (pw_or1 (pt_not (pt_val (pe_call GE (hr.mono (by first | decide | omega)) rfl TE.1 TE.2.1 TE.2.2 .nil pass0 (pa_cons (pv 2) pa_nil))))))))))
       (pss_one (ps_ret pe_bl))
       pss_nil)
       (pss_cons (ps_if (PW.pt (pw_or (pt_cmpR (Nm.op_neDK (K := K) rfl hr.units) (pe_meth0 (pv 1) cl MFl GFl (hr.mono (by first | decide | omega)) bFl .nil pass0) (pe_call GA (hr.mono (by first | decide | omega)) rfl TA.1 TA.2.1 TA.2.2 .nil pass0 (pa_cons (pv 0) (pa_cons (pe_lst (pa_cons pe_str (pa_cons pe_str (pa_cons pe_str pa_nil)))) pa_nil))) (nomark _)) (pw_or1 (pt_not (pt_val (pe_callG GP hgd (hr.mono (by first | decide | omega)) rfl TP.1 TP.2.1 TP.2.2 pass0 (pa_cons (pv 1) (pa_cons (pv 3) pa_nil))))))))
       (pss_one (ps_ret pe_bl))
       pss_nil)
       (pss_cons (ps_if (pt_cmpR (Nm.op_neDK (K := K) rfl hr.units) (pe_meth0 (pv 1) cl MLk GLk (hr.mono (by first | decide | omega)) bLk .nil pass0) (pe_call GA (hr.mono (by first | decide | omega)) rfl TA.1 TA.2.1 TA.2.2 .nil pass0 (pa_cons (pv 0) (pa_cons (pe_lst (pa_cons pe_str (pa_cons pe_str (pa_cons pe_str pa_nil)))) pa_nil))) (nomark _))
       (pss_one (ps_ret pe_bl))
       pss_nil)
       (pss_cons (ps_expr (pe_bm PySem.F.plainAttrs_list PySem.F.slot_list_append PySem.F.type_list_append mt_append (pe_meth0 (pv 1) cl MWk GWk (hr.mono (by first | decide | omega)) bWk .nil pass0) (pa_cons pe_str pa_nil)))
       (pss_cons (ps_if (PW.pt (pw_or (pt_cmpR (Nm.op_neDK (K := K) rfl hr.units) (pe_meth0 (pv 1) cl MWk GWk (hr.mono (by first | decide | omega)) bWk .nil pass0) (pe_call GA (hr.mono (by first | decide | omega)) rfl TA.1 TA.2.1 TA.2.2 .nil pass0 (pa_cons (pv 0) (pa_cons (pe_lst (pa_cons pe_str (pa_cons pe_str pa_nil))) pa_nil))) (nomark _)) (pw_or1 (pt_cmpR op_isnot_bl (pe_call GIB (hr.mono (by first | decide | omega)) rfl TIB.1 TIB.2.1 TIB.2.2 .nil pass0 (pa_cons (pv 0) pa_nil)) pe_bl (nomark _)))))
       (pss_one (ps_ret pe_bl))
       pss_nil)
       (pss_one (ps_ret (pe_and (pe_cmpR (Nm.op_eqDK (K := K) rfl hr.units) (pe_call GY (hr.mono (by first | decide | omega)) rfl TY.1 TY.2.1 TY.2.2 .nil pass0 (pa_cons (pv 0) pa_nil)) (pe_call GA (hr.mono (by first | decide | omega)) rfl TA.1 TA.2.1 TA.2.2 .nil pass0 (pa_cons (pv 0) (pa_cons (pe_lst (pa_cons pe_str pa_nil)) pa_nil))) (nomark _)) (pe_and (pe_cmpR (Nm.op_eqOwn (K := K) rfl EC.1 EC.2 GEq (hr.mono (by first | decide | omega)) bEq pass0) (pv 1) (pe_make mB GB (hr.mono (by first | decide | omega)) rfl gB bB .nil passF (pa_cons (pv 0) pa_nil)) (nomark _)) (pe_one (pe_not (pe_cmpR (Nm.op_eqOwn (K := K) rfl EC.1 EC.2 GEq (hr.mono (by first | decide | omega)) bEq pass0) (pv 1) (pv 0) (nomark _)))))))))))))))), ?_⟩
    obtain ⟨L, hL⟩ : ∃ L : Nat, L = (flat ds).length := ⟨_, rfl⟩
    refine seq_in (asg_in (tup_in (cons_in (made ok rfl hp ha fun H1 x s1 nx hb => ?_))))
    have hp1 := s1.tupS hp
    have ha1 := ha.same s1
    refine ⟨_, rfl, _, rfl, H1, p, xs, ds, rfl, Same.refl _, hp1, ha1, ok.fits, ok.br, fun H2 s2 => ⟨by show 0 ≤ sizeLine; decide, fun t nt => ?_⟩⟩
    have s3 : Same H1 (upd H2 t (.tup [])) := s2.trans (same_upd nt)
    have e3 : (upd H2 t (.tup [])) t = some (.tup []) := upd_same
    generalize upd H2 t (.tup []) = H3 at s3 e3
    refine ⟨H1, p, 0, (flat ds).length, .ref t, xs, ds, [], rfl, s3, s3.tupS hp1, ha1, ok.fits, ok.br, ⟨t, rfl, SqT.of e3⟩, (by have := ok.len; show 0 + _ ≤ 900; omega), fun H4 l ys s4 nl hl hrows => ?_⟩
    have s14 := s3.trans s4
    refine ⟨_, rfl, H1, p, xs, ds, rfl, s14, s14.tupS hp1, ha1, ok.fits, ok.br, fun H5 s5 => ⟨by show 3 ≤ sizeLine; decide, fun t5 nt5 => ?_⟩⟩
    have s15 := s14.trans s5
    have e5 : (upd H5 t5 (.tup [.ref x, .ref l, .int ((flat ds).length : Nat)])) t5 = some (.tup [.ref x, .ref l, .int ((flat ds).length : Nat)]) := upd_same
    have s16 := s15.trans (same_upd (o := HO.tup [.ref x, .ref l, .int ((flat ds).length : Nat)]) nt5)
    have hl6 := ((s5.trans (same_upd (o := HO.tup [.ref x, .ref l, .int ((flat ds).length : Nat)]) nt5))) _ _ hl
    have hrows6 := hrows.mono fun _ _ z => z.same (s5.trans (same_upd (o := HO.tup [.ref x, .ref l, .int ((flat ds).length : Nat)]) nt5))
    generalize upd H5 t5 (.tup [.ref x, .ref l, .int ((flat ds).length : Nat)]) = H6 at e5 s16 hl6 hrows6
    refine ⟨t5, _, rfl, SqT.of e5, rfl, _, _, rfl, _, _, rfl, _, _, rfl, rfl, ?_⟩
    have hb6 := hb.same s16
    have hp6 := s16.tupS hp1
    have ha6 := ha1.same s16
    rw [← hL]
    have h8 : L ≤ 8 := by rw [hL]; exact ok.len
    dsimp only
    -- the triples
    refine seqS_in (asg_in ⟨_, rfl, (L : Int), rfl, by omega, by omega, fun D6 nD => ?_⟩)
    rw [Int.toNat_natCast]
    refine lc_range (lo := 0) (n := L) (fun k H' => ∃ acc, Same H6 H' ∧ H' D6 = some (.lst acc) ∧ All2 (RowT3 K H6 H') acc ((rowsOf ds 0 (flat ds).length []).take k)) ⟨[], same_upd nD, upd_same, by rw [List.take_zero]; exact .nil⟩ (fun k H' hk ⟨acc, s', hD, al⟩ => ?_) fun H7 ⟨acc, s7, hD, al⟩ => ?_
    · rw [show ((0 : Int) + (k : Nat)) = ((k : Nat) : Int) from Int.zero_add _]
      obtain ⟨dx, l1, l2, l3, ys1, zs, us, x0, u1, u2, r, h0, h1, h2, h3, n1, n2, n3, g1, g2, g3, er, d1, d2, d3⟩ := body_row hb6 (i := k) (by omega)
      have one : ∀ {i : Nat} {ws : List V} {u v : V}, (V.int (k : Nat)) = .int (i : Nat) → ws[i]? = some u → ws[k]? = some v → u = v := fun e h h' => by
        have e := V.int.inj e
        have e : k = _ := Int.ofNat.inj e
        rw [e, h] at h'
        exact Option.some.inj h'
      refine ⟨rfl, yes_in ?_⟩
      refine iteT ?_
      refine ⟨_, rfl, x, dx, _, rfl, s' _ _ h0, rfl, _, rfl, x, dx, l1, l1, _, _, ys1, ys1, true, rfl, s' _ _ h0, rfl, s' _ _ h1, rfl, s' _ _ h1, rfl, ix_yes (by omega) (by omega), fun _ i' u ev hu => ?_, fun z => nomatch z⟩
      rw [one ev hu g1]
      refine ⟨_, rfl, x, dx, _, rfl, s' _ _ h0, rfl, _, rfl, x, dx, l1, l2, _, _, ys1, zs, true, rfl, s' _ _ h0, rfl, s' _ _ h1, rfl, s' _ _ h2, by omega, ix_yes (by omega) (by omega), fun _ i' u ev hu => ?_, fun z => nomatch z⟩
      rw [one ev hu g2]
      refine ⟨_, rfl, x, dx, _, rfl, s' _ _ h0, rfl, _, rfl, x, dx, l3, l3, _, _, us, us, true, rfl, s' _ _ h0, rfl, s' _ _ h3, rfl, s' _ _ h3, rfl, ix_yes (by omega) (by omega), fun _ i' u ev hu => ?_, fun z => nomatch z⟩
      rw [one ev hu g3]
      refine ⟨by show 3 ≤ sizeLine; decide, fun t nt => ?_⟩
      have la := al.length
      rw [List.length_take] at la
      have hD' := same_upd (o := HO.tup [x0, u1, u2]) nt _ _ hD
      refine ⟨acc, hD', by rw [sizeLine_eq]; omega, acc ++ [.ref t], same_updN nD (s'.trans (same_upd nt)), upd_same, ?_⟩
      rw [take_snoc er]
      exact (al.mono fun _ _ z => (z.same (same_upd nt)).updL hD').append (.cons ((row_new d1 d2 d3 (s'.trans (same_upd nt)) upd_same).updL hD') .nil)
    refine name_in ?_
    rw [List.take_of_length_le (by rw [rows_len]; omega)] at al
    dsimp only
    have hb7 := hb6.same s7
    have hp7 := s7.tupS hp6
    have ha7 := ha6.same s7
    have hl7 := s7 _ _ hl6
    have hrows7 := hrows6.mono fun _ _ z => z.same s7
    clear hb6 hp6 ha6 hl6 hrows6
    have sm := ok.small
    -- they are the rows
    obtain ⟨f1, f2, f3, f4⟩ := sm.show_rows
    obtain ⟨m1, m2, m3, m4⟩ := sm.show_items
    have shr : shAll ((rowsOf ds 0 (flat ds).length []).map rowD) = true := shAll_mem fun d hd => by
      obtain ⟨r, hr, rfl⟩ := List.mem_map.mp hd
      exact (sm.rows r hr).1
    have shi : shAll (flat ds) = true := shAll_mem fun d hd => (sh_flat _ ds (Nat.lt_succ_self _) sm.sh d hd).1
    have q1 := dq_all _ _ shr (dp_rows s7 al)
    have q2 := dq_all _ _ shr (dp_rows (s16.trans s7) hrows7)
    refine seqS_in (if_in ?_)
    refine ⟨_, rfl, _, _, rfl, .lst (SqL.of hD) q1, .inl f1, f2, f3, f4, ?_⟩
    refine ⟨_, rfl, _, _, rfl, .lst (SqL.of hl7) q2, .inl f1, f2, f3, f4, rfl, _, rfl, ?_⟩
    rw [neS]
    refine iteF (test_in (op_in (cons_in (ord_read rfl (by show 6 < 8; decide) hp7 ha7 ok.fits ok.br ok.few fun D8 H8 acc8 s8 nD8 e8 a8 => ?_))))
    refine ⟨_, _, rfl, .lst (SqL.of e8) (dq_all _ _ shi a8), .inl m1, m2, m3, m4, ?_⟩
    have hrows8 := hrows7.mono fun _ _ z => z.same s8
    have hl8 := s8 _ _ hl7
    have s78 := s8
    refine ⟨_, rfl, l, rfl, ⟨_, SqL.of hl8⟩, fun D9 nD9 => lc_list (K := K) (a := l) (xs := ys) (fun k H' => ∃ acc, Same H8 H' ∧ H' D9 = some (.lst acc) ∧ DpAll K H8 acc ((flat ds).take k)) ⟨[], same_upd nD9, upd_same, by rw [List.take_zero]; exact .nil⟩ (fun i H' _ ⟨_, z, _⟩ => SqL.of (z _ _ hl8)) ?_ ?_⟩
    · rintro i v H' hv ⟨acc9, s9, hD9, al9⟩
      obtain ⟨r, hr, pr, x0, u1, u2, rfl, k1, k2, k3, k4⟩ := hrows8.get hv
      refine ⟨rfl, yes_in ?_⟩
      refine iteT ⟨_, rfl, pr, _, _, _, rfl, rfl, s9.tupS k1, at0, acc9, hD9, ?_, acc9 ++ [x0], same_updN nD9 s9, upd_same, ?_⟩
      · have la := dpl al9
        have := ok.len
        rw [List.length_take] at la
        rw [sizeLine_eq]
        omega
      · have ei : (flat ds)[i]? = some r.1 := by
          rw [← rows_items ds, List.getElem?_map, hr]
          rfl
        rw [take_snoc ei]
        exact dp_app al9 (.cons (k2.same ((s16.trans s7).trans s8)) .nil)
    · rintro H9 ⟨acc9, s9, hD9, al9⟩
      have lr := hrows7.length
      rw [rows_len] at lr
      rw [lr, List.take_length] at al9
      have shc := dq_all _ _ shi (al9.same s9)
      refine ⟨_, _, rfl, .lst (SqL.of hD9) shc, .inl m1, m2, m3, m4, rfl, _, rfl, ?_⟩
      rw [neS]
      refine iteF ?_
      have s79 := s8.trans s9
      have hb9 := hb7.same s79
      have hp9 := s79.tupS hp7
      have ha9 := ha7.same s79
      have hl9 := s79 _ _ hl7
      have hrows9 := hrows7.mono fun _ _ z => z.same s79
      clear hb7 hp7 ha7 hl7 hrows7
      dsimp only [tNext]
      -- its size, its code
      obtain ⟨dx, l1, l2, l3, ys1, zs, us, h0, hc, h1, a1, h2, a2, h3, a3⟩ := id hb9
      have n1 := dpl a1
      refine seqS_in (if_in ?_)
      refine ⟨_, rfl, x, dx, _, rfl, h0, x, dx, l1, _, ys1, rfl, h0, rfl, h1, _, rfl, rfl, _, rfl, ?_⟩
      rw [n1, ← hL, neS]
      refine iteF ⟨_, rfl, x, dx, _, rfl, h0, x, dx, l1, _, ys1, rfl, h0, rfl, h1, _, rfl, by omega, by omega, _, rfl, rfl, _, rfl, ?_⟩
      rw [n1, ← hL, neS]
      refine iteF ⟨_, rfl, x, dx, _, rfl, h0, rfl, _, rfl, ?_⟩
      refine nil_in ?_
      refine body_held (v := .int (L : Nat)) (b := true) hb9 (ix_yes (by omega) (by omega)) (fun _ i' u ns ev hn hu => ?_) fun z => nomatch z
      have hns : ns = [] := by
        have e := V.int.inj ev
        have e : L = i' := Int.ofNat.inj e
        rw [← e, hL, ← hl_len ds [], List.getElem?_append_right (Nat.le_refl _), Nat.sub_self] at hn
        exact (Option.some.inj hn).symm
      subst hns
      obtain ⟨pu, rfl, hpu⟩ := hu
      refine ⟨by show 0 ≤ sizeLine; decide, fun t10 nt10 => ?_⟩
      have s10 := same_upd (o := HO.tup []) nt10
      refine ⟨.tuple [], .tuple [], .tup (s10.tupS hpu) .nil, .tup (SqT.of upd_same) .nil, nilT_shaped, nilT_shaped, _, rfl, ?_⟩
      rw [eqv_nilT]
      refine iteF ?_
      generalize upd H9 t10 (.tup []) = H10 at s10
      have hb10 := hb9.same s10
      have hp10 := s10.tupS hp9
      have ha10 := ha9.same s10
      have hl10 := s10 _ _ hl9
      have hrows10 := hrows9.mono fun _ _ z => z.same s10
      refine ⟨_, rfl, x, dx, _, rfl, s10 _ _ h0, x, dx, _, _, rfl, s10 _ _ h0, rfl, _, rfl, .tuple ds, .tuple ds, .tup hp10 ha10, .tup hp10 ha10, fits_sh ok.fits (by decide), fits_sh ok.fits (by decide), _, rfl, ?_⟩
      rw [ok.refl]
      refine iteF ⟨_, rfl, H1, l, ys, _, rfl, hl10, hrows10, by rw [rows_len]; omega, fun i r hr => ?_, fun H11 s11 => ⟨_, rfl, iteF ?_⟩⟩
      · rw [rows_len]
        exact rows_up i r hr
      have s10b := s11
      have hb11 := hb10.same s11
      have hp11 := s11.tupS hp10
      have ha11 := ha10.same s11
      clear hb9 hp9 ha9 hl9 hrows9 hb10 hp10 ha10 hl10 hrows10
      dsimp only [tNext]
      -- flags
      refine seqS_in (if_in (test_in (op_in (told hb11 ok hp11 ha11 flag_named (fun _ _ _ _ => rfl) rfl fun H12 la ya sa na ea pa oa => ?_))))
      refine ⟨_, rfl, by show 3 ≤ sizeLine; decide, fun lw nlw => nil_in (said_ln ok (sa.trans (same_upd nlw)) ((sa.trans (same_upd nlw)).tupS hp11) ha11 (vs := ["set", "clear", "test"]) (fun x hx => flag_named x ((flag_mem x).mpr hx)) upd_same fun H13 lb yb sb nb eb pb ob => ?_)⟩
      obtain rfl := names_one flag_mem pa oa pb ob
      have s13 : Same H11 H13 := (sa.trans (same_upd nlw)).trans sb
      refine ne_names (ok.all_ok flag_named pa) (((same_upd nlw).trans sb) _ _ ea) eb ⟨_, rfl, iteF ?_⟩
      refine ⟨_, rfl, _, rfl, x, .ref p, ds, by rw [hL]; rfl, hb11.same s13, ok.len, fun H14 s14' => ⟨_, rfl, iteF ?_⟩⟩
      have s114 := s13.trans s14'
      have hb14 := hb11.same s114
      have hp14 := s114.tupS hp11
      have ha14 := ha11.same s114
      dsimp only [tNext]
      -- locks
      refine seqS_in (if_in (test_in (op_in (told hb14 ok hp14 ha14 lock_named (fun _ _ _ _ => rfl) rfl fun H15 lc yc sc nc ec pc oc => ?_))))
      refine ⟨_, rfl, by show 3 ≤ sizeLine; decide, fun lw2 nlw2 => nil_in (said_ln ok (sc.trans (same_upd nlw2)) ((sc.trans (same_upd nlw2)).tupS hp14) ha14 (vs := lockW) lock_named upd_same fun H16 ld yd sd nd ed pd od => ?_)⟩
      obtain rfl := names_one (fun _ => Iff.rfl) pc oc pd od
      have s146 : Same H14 H16 := (sc.trans (same_upd nlw2)).trans sd
      refine ne_names (ok.all_ok lock_named pc) (((same_upd nlw2).trans sd) _ _ ec) ed ⟨_, rfl, iteF ?_⟩
      have hb17 := hb14.same s146
      have hp17 := s146.tupS hp14
      have ha17 := ha14.same s146
      dsimp only [tNext]
      -- works: a new list
      refine seqS_in (drop_in (bm_in (told hb17 ok hp17 ha17 work_named (fun _ _ _ _ => rfl) rfl fun H18 le ye se nne ee pe oe => ⟨.inl ⟨rfl, _, SqL.of ee⟩, ?_⟩)))
      have lye : (ye.map V.str).length < sizeLine := by
        have z := pe.length_eq
        have z2 := namesF_len workW (fwp ds)
        have z3 := ok.l64
        rw [List.length_map, sizeLine_eq]
        omega
      refine ⟨le, _, _, rfl, rfl, ee, lye, ?_⟩
      have s18 : Same H16 (upd H18 le (.lst (ye.map V.str ++ [.str "zz"]))) := same_updN nne se
      generalize upd H18 le (.lst (ye.map V.str ++ [.str "zz"])) = H19 at s18
      have hb19 := hb17.same s18
      have hp19 := s18.tupS hp17
      have ha19 := ha17.same s18
      dsimp only
      refine seqS_in (if_in (test_in (op_in (told hb19 ok hp19 ha19 work_named (fun _ _ _ _ => rfl) rfl fun H20 lf yf sf nf ef pf of => ?_))))
      refine ⟨_, rfl, by show 2 ≤ sizeLine; decide, fun lw3 nlw3 => nil_in (said_ln ok (sf.trans (same_upd nlw3)) ((sf.trans (same_upd nlw3)).tupS hp19) ha19 (vs := workW) work_named upd_same fun H21 lg yg sg ng eg pg og => ?_)⟩
      obtain rfl := names_one (fun _ => Iff.rfl) pf of pg og
      have s21 : Same H19 H21 := (sf.trans (same_upd nlw3)).trans sg
      refine ne_names (ok.all_ok work_named pf) (((same_upd nlw3).trans sg) _ _ ef) eg ⟨_, rfl, iteF ?_⟩
      have hb21 := hb19.same s21
      have hp21 := s21.tupS hp19
      have ha21 := ha19.same s21
      refine ⟨_, rfl, .ref p, some (.tuple ds), rfl, ⟨.tup hp21 ha21, ok.fit⟩, fun H22 s22 => ⟨_, _, rfl, rfl, _, rfl, ?_⟩⟩
      rw [ok.sound]
      refine iteF ?_
      have hb22 := hb21.same s22
      have hp22 := s22.tupS hp21
      have ha22 := ha21.same s22
      dsimp only [tNext]
      -- works that may start; itself
      refine ret_in ?_
      refine ⟨_, rfl, p, xs, ds, rfl, hp22, ha22, ok.fits, ok.pc, ok.few, ok.nm start_named, ok.l64, fun H23 lh yh sh nh eh ph oh => ?_⟩
      refine ⟨_, rfl, by show 1 ≤ sizeLine; decide, fun lw4 nlw4 => nil_in (said_ln ok (sh.trans (same_upd nlw4)) ((sh.trans (same_upd nlw4)).tupS hp22) ha22 (vs := ["start"]) start_named upd_same fun H24 li yi si ni ei pi oi => ?_)⟩
      obtain rfl := names_one (fun _ => Iff.rfl) ph oh pi oi
      have s24 : Same H22 H24 := (sh.trans (same_upd nlw4)).trans si
      refine eq_names (ok.all_ok start_named ph) (((same_upd nlw4).trans si) _ _ eh) ei ⟨_, rfl, iteT ?_⟩
      have hb24 := hb22.same s24
      have hp24 := s24.tupS hp22
      have ha24 := ha22.same s24
      refine ⟨_, rfl, made ok rfl hp24 ha24 fun H25 x2 s25 nx2 hb2 => ?_⟩
      have hb25 := hb24.same s25
      have hp25 := s25.tupS hp24
      obtain ⟨dx5, fs5, h5⟩ := hb25.ins
      refine ⟨x, dx5, fs5, _, rfl, h5, hb2.ty cl cc, nf1, x, _, _, ds, rfl, hb25, ok.fits, .inr ⟨x2, _, ds, rfl, hb2, ok.fits, ?_⟩⟩
      rw [ok.refl]
      refine ⟨_, rfl, iteT ⟨_, rfl, _, rfl, x, dx5, fs5, _, rfl, h5, tyx_tup hp25, nf2, x, _, _, ds, rfl, hb25, ok.fits, .inl ⟨_, tyx_tup hp25, kT, _, rfl, ?_⟩⟩⟩
      exact q _ (s1.trans (s16.trans (s7.trans (s79.trans (s10.trans (s10b.trans (s114.trans (s146.trans (s18.trans (s21.trans (s22.trans (s24.trans s25))))))))))))
end
end Tr

/-! K33 -/
/-! ### the law -/
namespace Tr
open PySem PySem.Spec PyProof.Rows L2 Rw GenW
def spLaw (K : PySem.W.Frag) : Sp := fun vs H Q _ => ∃ (a : Addr) (ns : List Int), vs = [.ref a] ∧ SqL K H a (ns.map V.int) ∧ ns.length ≤ 63 ∧ ∀ H', Q (.bl true) H'
theorem pool_past {H : Hp} {o q lo : Addr} {x : HO} (p : PoolAt H o q) (h1 : o ≠ lo) (h2 : q ≠ lo) : PoolAt (upd H lo x) o q := by
  obtain ⟨a, ns, e1, e2, e3, e4⟩ := p
  exact ⟨a, ns, by rw [upd_ne h1]; exact e1, e2, by rw [upd_ne h2]; exact e3, e4⟩
theorem pool_nq {H : Hp} {o q lo : Addr} (p : PoolAt H o q) (n : H lo = none) : q ≠ lo := fun e => by
  obtain ⟨a, ns, e1, e2, e3, e4⟩ := p
  rw [e, n] at e3
  cases e3
theorem names_past {o lo nl : Addr} {H : Hp} {ns : List Str} {x : HO} (h : NamesAt (wh o H) nl ns) (n : nl ≠ lo) : NamesAt (wh o (upd H lo x)) nl ns := by
  refine ⟨?_, h.2⟩
  have z := h.1
  unfold wh at z ⊢
  split
  · next e => rw [if_pos e] at z; exact z
  · next e => rw [if_neg e] at z; rw [upd_ne n]; exact z
theorem sqT_wh {K : PySem.W.Frag} {H : Hp} {o q t : Addr} {xs : List V} (p : PoolAt H o q) (h : SqT K H t xs) : SqT K (wh o H) t xs := by
  obtain ⟨a, ns, h1, _⟩ := p
  rcases h with (h | ⟨ob, h⟩) | h
  · exact .inl (.inl (wh_at (fun e => by rw [e, h1] at h; cases h) h))
  · exact .inl (.inr ⟨ob, wh_at (fun e => by rw [e, h1] at h; cases h) h⟩)
  · exact .inr h
/-- a drawn tuple -/
def Gd (K : PySem.W.Frag) (H : Hp) (v : V) (ds : List D) : Prop := ∃ (pt : Addr) (xs : List V), v = .ref pt ∧ SqT K H pt xs ∧ DpAll K H xs ds ∧ RtD ds
theorem Gd.tups {K : PySem.W.Frag} {H H' : Hp} {v : V} {ds : List D} (h : Gd K H v ds) (t : ∀ a xs, SqT K H a xs → SqT K H' a xs) : Gd K H' v ds := by
  obtain ⟨pt, xs, e, h1, h2, ok⟩ := h
  exact ⟨pt, xs, e, t _ _ h1, dt_all t ds xs ok.small.sh h2, ok⟩
theorem Gd.same {K : PySem.W.Frag} {H H' : Hp} {v : V} {ds : List D} (h : Gd K H v ds) (s : Same H H') : Gd K H' v ds := h.tups fun _ _ z => s.tupS z
theorem Gd.but {K : PySem.W.Frag} {o q : Addr} {H H' : Hp} {v : V} {ds : List D} (h : Gd K H v ds) (b : SameBut o H H') (p : PoolAt H o q) : Gd K H' v ds := h.tups fun a xs z => wh_sub.tupS ((wh_but b).tupS (sqT_wh p z))
theorem tup_past {K : PySem.W.Frag} {H : Hp} {lo : Addr} {vs : List V} {x : HO} (e : H lo = some (.lst vs)) : ∀ a xs, SqT K H a xs → SqT K (upd H lo x) a xs := fun a xs z => sqT_updL e z
def nm1 : List Str := ["f", "use", "abcdefgh"]
def nm2 : List Str := ["b", "a", "ab", "take"]
def nm3 : List Str := ["x", "xx", "xxx", "y"]
theorem nm1_ok : ∀ n ∈ nm1, goodD (.str n) = true ∧ nameB n = true := by decide +kernel
theorem nm2_ok : ∀ n ∈ nm2, goodD (.str n) = true ∧ nameB n = true := by decide +kernel
theorem nm3_ok : ∀ n ∈ nm3, goodD (.str n) = true ∧ nameB n = true := by decide +kernel
section
variable {P : Program} {w : World} {K : PySem.W.Frag} {mg : Str → Option Value} {base : Heap}
abbrev sLaw : Stmt := top 57
theorem scLaw : FnScope ["_law_script", "_law_k", "_law_cell", "_law_pool_here", "_law_names", "_law_some_here", "_law_turn", "_law_items"] ["_law_script"] (defScope sLaw) := ⟨rfl, rfl, rfl, by decide +kernel, rfl, by decide +kernel, by decide +kernel⟩
theorem ok_law {f fPo fD fM fP fR fB fEq C CI : Addr} {fd fdPo fdD fdM fdP fdR fdB fdEq : FuncData} {nB : Str} (F : Fun K "law" "law" sLaw f fd) (cl : Cls K C) (cc : TCls K C nB)
    (GPo : FnOk P w K mg base CX0 2 fPo fdPo ["_law_cell", "_law_salt", "_law_many_here"] (spPool4 K)) (TPo : Called K mg "_law_pool" ["_law_cell", "_law_salt", "_law_many_here"] fPo fdPo)
    (GD : FnOk P w K mg base CX0 1 fD fdD ["_law_pool_here", "_law_many_here"] (spDraw K)) (TD : Called K mg "_law_draw" ["_law_pool_here", "_law_many_here"] fD fdD)
    (GP : FnOk P w K mg base CX0 3 fP fdP ["_law_pool_here", "_law_names"] (spPl K)) (TP : Called K mg "_law_plain" ["_law_pool_here", "_law_names"] fP fdP)
    (GM : FnOk P w K mg base CX0 36 fM fdM ["_law_pool_here", "_law_names", "_law_deep", "_law_room", "_law_held"] (spMn K 8)) (TM : Called K mg "_law_many" ["_law_pool_here", "_law_names", "_law_deep", "_law_room", "_law_held"] fM fdM)
    (GR : FnOkG P w K mg base CX0 40 fR fdR ["_law_items"] (spRt K)) (TR : Called K mg "_law_right" ["_law_items"] fR fdR)
    (gB : mg "Body" = some (.ref C)) (mB : Mk K C fB) (GB : FnOk P w K mg base (L2.CX P w) 38 fB fdB ["self", "items"] (spBI K C CI 17)) (bB : Binds K fdB ["self", "items"] [])
    (EC : PySem.W.findIn K (.ref C) "__eq__" = some (some (.ref fEq)) ∧ PySem.W.isFn K (.ref fEq) = true) (GEq : FnOk P w K mg base CX0 2 fEq fdEq ["self", "other"] (spEqB K C 16)) (bEq : Binds K fdEq ["self", "other"] [])
    (nf1 : PySem.W.notFirst K C (.ref C) = true)
    (m_enumerate : mg "enumerate" = none) (m_int : mg "int" = none) (m_range : mg "range" = none) : FnOkG P w K mg base CX0 42 f fd ["_law_script"] (spLaw K) := by
  refine F.okG scLaw (fun vs H Q E h => ?_) (fun cdv A outer s H vs Q E hgd hr h => ?_)
  · obtain ⟨a, ns, rfl, _⟩ := h
    rfl
  · obtain ⟨a, ns, rfl, hS, hlen, q⟩ := h
    refine ⟨_, (pss_cons (ps_for PassesOwn.never rfl (pi_enum (by rfl) m_enumerate (pa_cons (pe_op op_cat (pe_slice sl_list (pv 0) po_none (po_some pe_int)) (pe_op op_rep (pe_lst (pa_cons pe_int pa_nil)) (pe_callTy call_int1 (by rfl) m_int (by decide +kernel) (pa_cons (pe_cmpR (Nm.op_eqDK (K := K) rfl hr.units) (pv 0) (pe_lst pa_nil) (nomark _)) pa_nil)))) pa_nil)) (pg_tup rfl (pgs_cons (pg_name (i := 1) scLaw.nd rfl (.inl rfl)) (pgs_cons (pg_name (i := 2) scLaw.nd rfl (.inl rfl)) pgs_nil)))
       (pss_cons (ps_set (i := 3) scLaw.nd rfl (.inl rfl) (pe_call GPo (hr.mono (by first | decide | omega)) rfl TPo.1 TPo.2.1 TPo.2.2 .nil pass0 (pa_cons (pv 2) (pa_cons (pe_op op_add pe_int (pv 1)) (pa_cons pe_int pa_nil)))))
       (pss_cons (ps_set (i := 4) scLaw.nd rfl (.inl rfl) (pe_ix (ix_listK (K := K) rfl) (pe_lst (pa_cons (pe_lst (pa_cons pe_str (pa_cons pe_str (pa_cons pe_str pa_nil)))) (pa_cons (pe_lst (pa_cons pe_str (pa_cons pe_str (pa_cons pe_str (pa_cons pe_str pa_nil))))) (pa_cons (pe_lst (pa_cons pe_str (pa_cons pe_str (pa_cons pe_str (pa_cons pe_str pa_nil))))) pa_nil)))) (pe_call GD (hr.mono (by first | decide | omega)) rfl TD.1 TD.2.1 TD.2.2 .nil pass0 (pa_cons (pv 3) (pa_cons pe_int pa_nil))) (fun _ _ => rfl)))
       (pss_cons (ps_set (i := 5) scLaw.nd rfl (.inl rfl) (pe_lst pa_nil))
       (pss_cons (ps_for PassesOwn.never rfl (pi_range1 rfl m_range (pa_cons pe_int pa_nil)) (pg_name (i := 6) scLaw.nd rfl (.inl rfl))
       (pss_cons (ps_set (i := 7) scLaw.nd rfl (.inl rfl) (pe_call GM (hr.mono (by first | decide | omega)) rfl TM.1 TM.2.1 TM.2.2 .nil pass0 (pa_cons (pv 3) (pa_cons (pv 4) (pa_cons pe_int (pa_cons (pe_op op_add pe_int (pe_call GD (hr.mono (by first | decide | omega)) rfl TD.1 TD.2.1 TD.2.2 .nil pass0 (pa_cons (pv 3) (pa_cons pe_int pa_nil)))) (pa_cons (pe_lst pa_nil) pa_nil)))))))
       (pss_one (ps_expr (pe_bm PySem.F.plainAttrs_list PySem.F.slot_list_append PySem.F.type_list_append mt_append (pv 5) (pa_cons (pe_ifExp (pt_cmpR (Nm.op_neDK (K := K) rfl hr.units) (pv 7) (pe_tup pa_nil) (nomark _))
       (pv 7)
       (pe_tup (pa_cons (pe_call GP (hr.mono (by first | decide | omega)) rfl TP.1 TP.2.1 TP.2.2 .nil pass0 (pa_cons (pv 3) (pa_cons (pv 4) pa_nil))) pa_nil))) pa_nil))))))
       (pss_cons (ps_if (PW.pt (pw_or (pt_not (pt_val (pe_callG GR hgd (hr.mono (by first | decide | omega)) rfl TR.1 TR.2.1 TR.2.2 pass0 (pa_cons (pe_ix (ix_listK (K := K) rfl) (pv 5) pe_int (fun _ _ => rfl)) pa_nil)))) (pw_or1 (pt_not (pt_val (pe_callG GR hgd (hr.mono (by first | decide | omega)) rfl TR.1 TR.2.1 TR.2.2 pass0 (pa_cons (pe_ix (ix_listK (K := K) rfl) (pv 5) pe_int (fun _ _ => rfl)) pa_nil)))))))
       (pss_one (ps_ret pe_bl))
       pss_nil)
       (pss_one (ps_if (pt_cmpR op_ne (pe_cmpR (Nm.op_eqOwn (K := K) rfl EC.1 EC.2 GEq (hr.mono (by first | decide | omega)) bEq pass0) (pe_make mB GB (hr.mono (by first | decide | omega)) rfl gB bB .nil passF (pa_cons (pe_ix (ix_listK (K := K) rfl) (pv 5) pe_int (fun _ _ => rfl)) pa_nil)) (pe_make mB GB (hr.mono (by first | decide | omega)) rfl gB bB .nil passF (pa_cons (pe_ix (ix_listK (K := K) rfl) (pv 5) pe_int (fun _ _ => rfl)) pa_nil)) (nomark _)) (pe_cmpR (Nm.op_eqDK (K := K) rfl hr.units) (pe_ix (ix_listK (K := K) rfl) (pv 5) pe_int (fun _ _ => rfl)) (pe_ix (ix_listK (K := K) rfl) (pv 5) pe_int (fun _ _ => rfl)) (nomark _)) (nomark _))
       (pss_one (ps_ret pe_bl))
       pss_nil))))))))
       (pss_one (ps_ret pe_bl))), ?_⟩
    refine ⟨.ref a, rfl, 4, rfl, a, ns.map V.int, rfl, hS, fun c nc => ?_⟩
    have t0 := same_upd (o := HO.lst (cutV (ns.map V.int) none (some 4))) nc
    refine ⟨(by show 1 ≤ sizeLine; decide), fun l nl => ?_⟩
    have t1 := same_upd (o := HO.lst [V.int 7]) nl
    refine ⟨.ref a, rfl, (by show 0 ≤ sizeLine; decide), fun e ne => ?_⟩
    have t2 := same_upd (o := HO.lst []) ne
    refine ⟨.list (ns.map .int), .list [], .lst (((t0.trans t1).trans t2).seq hS) (Rw.dp_ints ns), .lst (SqL.of upd_same) .nil, shaped_ints ns, (by decide), ?_⟩
    generalize PyData.eqv (.list (ns.map .int)) (.list []) = b
    refine .inr ⟨b, rfl, ?_⟩
    have hb : ∃ k : Nat, k ≤ 1 ∧ (if b = true then (1 : Int) else 0) = k := by
      cases b
      · exact ⟨0, by decide, rfl⟩
      · exact ⟨1, by decide, rfl⟩
    obtain ⟨kb, hk1, hkb⟩ := hb
    rw [hkb]
    obtain ⟨ms, hms, hml⟩ := ints_of_cut ns 4 kb
    refine ⟨l, kb, _, rfl, rfl, t2 _ _ upd_same, by omega, by omega, ?_, fun r nr => ?_⟩
    · show 1 * ((kb : Int)).toNat ≤ sizeLine
      rw [sizeLine_eq]
      omega
    have t3 := same_upd (o := HO.lst (List.replicate ((kb : Int)).toNat [V.int 7]).flatten) nr
    refine ⟨c, r, _, _, rfl, rfl, ((t1.trans t2).trans t3) _ _ upd_same, upd_same, ?_, fun L nL => ?_⟩
    · have z : (cutV (ns.map V.int) none (some 4)).length ≤ (ns.map V.int).length := cutV_length _ _ _
      have z2 : (List.replicate ((kb : Int)).toNat [V.int 7]).flatten.length ≤ 1 := by
        match kb, hk1 with
        | 0, _ => decide
        | 1, _ => decide
      rw [List.length_map] at z
      rw [sizeLine_eq]
      omega
    have t4 := same_upd (o := HO.lst (cutV (ns.map V.int) none (some 4) ++ (List.replicate ((kb : Int)).toNat [V.int 7]).flatten)) nL
    have hms' : cutV (ns.map V.int) none (some 4) ++ (List.replicate ((kb : Int)).toNat [V.int 7]).flatten = ms.map V.int := hms
    rw [hms']
    rw [hms'] at t4
    have hml2 : ms.length ≤ 64 := by omega
    refine ⟨L, ms.map V.int, rfl, SqL.of upd_same, for_enum (K := K) (a := L) (xs := ms.map V.int)
      (fun i σ H' => ∃ v1 v2 v3 v4 v5 v6 v7 : Option V, σ = [some (.ref a), v1, v2, v3, v4, v5, v6, v7] ∧ H' L = some (.lst (ms.map V.int)))
      ⟨none, none, none, none, none, none, none, rfl, upd_same⟩ (fun i σ H' _ ⟨_, _, _, _, _, _, _, _, hL⟩ => SqL.of hL) ?_ ?_⟩
    · rintro i x σ H1 T1 hxi ⟨v1, v2, v3, v4, v5, v6, v7, rfl, hL⟩ nT
      have hi : i < ms.length := by
        have z := (List.getElem?_eq_some_iff.mp hxi).1
        rw [List.length_map] at z
        exact z
      obtain ⟨cell, rfl⟩ : ∃ cell : Int, x = .int cell := by
        rw [List.getElem?_map] at hxi
        obtain ⟨y, _, hy⟩ := Option.map_eq_some_iff.mp hxi
        exact ⟨y, hy.symm⟩
      have u0 := same_upd (o := .tup [.int (i : Nat), .int cell]) nT
      refine ⟨T1, _, rfl, SqT.of upd_same, rfl, _, _, rfl, _, _, rfl, rfl, ?_⟩
      refine ⟨_, rfl, _, rfl, _, _, rfl, rfl, cell, 200 + (i : Nat), 200, rfl, by omega, by omega, by decide, by decide, fun H2 o qq s2 no p2 => name_in ?_⟩
      have s02 := u0.trans s2
      have hL2 := s02 _ _ hL
      have nLo : L ≠ o := ne_of_none (u0 _ _ hL) no
      dsimp only
      -- names
      refine seqS_in (asg_via (fun v H' => ∃ nl ns, v = .ref nl ∧ NamesAt (wh o H') nl ns ∧ SameBut o H2 H' ∧ PoolAt H' o qq) (fun Qx hQ => ?_) ?_)
      · refine ⟨by show 3 ≤ sizeLine; decide, fun l1 n1 => ⟨by show 4 ≤ sizeLine; decide, fun l2 n2 => ⟨by show 4 ≤ sizeLine; decide, fun l3 n3 => ⟨by show 3 ≤ sizeLine; decide, fun l4 n4 => ⟨_, rfl, ?_⟩⟩⟩⟩⟩
        have r1 := pool_upd (x := HO.lst (nm1.map V.str)) p2 n1
        have g1 := newL (vs := nm1.map V.str) p2 n1
        have r2 := pool_upd (x := HO.lst (nm2.map V.str)) r1 n2
        have g2 := newL (vs := nm2.map V.str) r1 n2
        have r3 := pool_upd (x := HO.lst (nm3.map V.str)) r2 n3
        have g3 := newL (vs := nm3.map V.str) r2 n3
        have r4 := pool_upd (x := HO.lst [.ref l1, .ref l2, .ref l3]) r3 n4
        have e4 : (upd (upd (upd (upd H2 l1 (.lst (nm1.map V.str))) l2 (.lst (nm2.map V.str))) l3 (.lst (nm3.map V.str))) l4 (.lst [.ref l1, .ref l2, .ref l3])) l4 = some (.lst [.ref l1, .ref l2, .ref l3]) := upd_same
        have nlo := pool_ne r3 n4
        have w4 := wh_upd (o := o) (x := HO.lst [.ref l1, .ref l2, .ref l3]) n4
        have k1 := w4 _ _ (wh_upd n3 _ _ (wh_upd n2 _ _ g1))
        have k2 := w4 _ _ (wh_upd n3 _ _ g2)
        have k3 := w4 _ _ g3
        have b0 := but_of (x := o) ((((same_upd (o := HO.lst (nm1.map V.str)) n1).trans (same_upd (o := HO.lst (nm2.map V.str)) n2)).trans (same_upd (o := HO.lst (nm3.map V.str)) n3)).trans (same_upd (o := HO.lst [.ref l1, .ref l2, .ref l3]) n4))
        refine ⟨o, qq, _, rfl, r4, by decide, by decide, fun H3 m b3 p3 m0 m1 => ?_⟩
        have w3 := wh_but b3
        have e3 := b3 _ _ nlo e4
        have hm : m = 0 ∨ m = 1 ∨ m = 2 := by omega
        rcases hm with rfl | rfl | rfl
        · exact ⟨_, _, _, _, rfl, rfl, SqL.of e3, at0, hQ _ _ ⟨l1, nm1, rfl, ⟨w3 _ _ k1, by decide, by decide, nm1_ok⟩, b0.trans b3, p3⟩⟩
        · exact ⟨_, _, _, _, rfl, rfl, SqL.of e3, at1, hQ _ _ ⟨l2, nm2, rfl, ⟨w3 _ _ k2, by decide, by decide, nm2_ok⟩, b0.trans b3, p3⟩⟩
        · exact ⟨_, _, _, _, rfl, rfl, SqL.of e3, at2, hQ _ _ ⟨l3, nm3, rfl, ⟨w3 _ _ k3, by decide, by decide, nm3_ok⟩, b0.trans b3, p3⟩⟩
      rintro v H3 ⟨nl, nms, rfl, hn3, b3, p3⟩
      refine name_in ?_
      dsimp only
      have hL3 := b3 _ _ nLo hL2
      refine ⟨Nat.zero_le _, fun lo nlo => name_in ?_⟩
      have neo : o ≠ lo := fun e => pool_ne p3 nlo e.symm
      have neq := pool_nq p3 nlo
      have nel : nl ≠ lo := ne_of_none (wh_sub _ _ hn3.1) nlo
      have neL : L ≠ lo := ne_of_none hL3 nlo
      have p4 := pool_upd (x := HO.lst []) p3 nlo
      have hn4 := hn3.same (wh_upd (x := HO.lst []) nlo)
      have hL4 := same_upd (o := HO.lst []) nlo _ _ hL3
      have e4 : (upd H3 lo (.lst [])) lo = some (.lst []) := upd_same
      generalize upd H3 lo (.lst []) = H4 at p4 hn4 hL4 e4
      dsimp only
      -- two bodies
      refine ⟨2, rfl, by decide, by decide, for_range (lo := 0) (n := 2)
        (fun j σ H' => ∃ (v6 v7 : Option V) (acc : List V), σ = [some (.ref a), some (.int (i : Nat)), some (.int cell), some (.ref o), some (.ref nl), some (.ref lo), v6, v7] ∧ H' L = some (.lst (ms.map V.int)) ∧ PoolAt H' o qq ∧ NamesAt (wh o H') nl nms ∧ H' lo = some (.lst acc) ∧ acc.length = j ∧ ∀ v ∈ acc, ∃ ds, Gd K H' v ds)
        ⟨v6, v7, [], rfl, hL4, p4, hn4, e4, rfl, fun v hv => nomatch hv⟩ ?_ ?_⟩
      · rintro j σ H5 hj ⟨v6, v7, acc, rfl, hL5, p5, hn5, e5, hj5, ga⟩
        refine name_in ?_
        dsimp only
        refine seqS_in (asg_via (fun v H' => ∃ pt xs ds, v = .ref pt ∧ SqT K H' pt xs ∧ DpAll K H' xs ds ∧ Dr 0 8 ds ∧ Lg 0 [] ds ∧ SameBut o H5 H' ∧ PoolAt H' o qq) (fun Qx hQ => ?_) ?_)
        · refine ⟨_, rfl, _, rfl, _, rfl, o, qq, _, rfl, p5, by decide, by decide, fun H6 m b6 p6 m0 m1 => ⟨_, _, rfl, rfl, Nat.zero_le _, fun e ne => ?_⟩⟩
          have w6 := (wh_but b6).trans (wh_upd (o := o) (x := HO.lst []) ne)
          refine ⟨o, qq, nl, e, nms, [], _, _, 0, (1 + m).toNat, rfl, rfl, by omega, pool_upd p6 ne, hn5.same w6, newL (vs := []) p6 ne, by show 0 + _ ≤ 100; omega, by decide, by omega, fun H7 l7 ys ds b7 p7 h7 d7 dr lg => ?_⟩
          exact hQ _ _ ⟨l7, ys, ds, rfl, wh_sub.tupS h7, d7.same wh_sub, ⟨dr.its, dr.brs.mono (by omega)⟩, lg, b6.trans ((but_of (same_upd ne)).trans b7), p7⟩
        rintro v H6 ⟨pt, xs, ds, rfl, h6, d6, dr, lg, b6, p6⟩
        refine name_in ?_
        dsimp only
        have hn6 := hn5.same (wh_but b6)
        refine ⟨_, rfl, .inl ⟨rfl, _, SqL.of (b6 _ _ (Ne.symm neo) e5)⟩, cons_in ?_⟩
        refine ifE_via (fun v H' => ∃ ds, Gd K H' v ds ∧ SameBut o H6 H' ∧ PoolAt H' o qq) (fun v H7 hv => ?_) (fun hQ => ?_)
        · obtain ⟨ds', gd, b7, p7⟩ := hv
          have b57 := b6.trans b7
          have e7 := b57 _ _ (Ne.symm neo) e5
          refine ⟨lo, acc, v, rfl, rfl, e7, by rw [sizeLine_eq]; omega, ?_⟩
          refine ⟨_, _, acc ++ [v], rfl, by rw [upd_ne neL]; exact b57 _ _ nLo hL5, pool_past p7 neo neq, names_past (hn5.same (wh_but b57)) nel, upd_same, by rw [List.length_append, hj5]; rfl, fun u hu => ?_⟩
          rcases List.mem_append.mp hu with hu | hu
          · obtain ⟨du, gu⟩ := ga u hu
            exact ⟨du, (gu.but b57 p5).tups (tup_past e7)⟩
          · rw [List.mem_singleton.mp hu]
            exact ⟨ds', gd.tups (tup_past e7)⟩
        · refine ⟨_, rfl, Nat.zero_le _, fun e ne => ?_⟩
          have s7 := same_upd (o := HO.tup []) ne
          refine ⟨.tuple ds, .tuple [], .tup (s7.tupS h6) (d6.same s7), .tup (SqT.of upd_same) .nil, fits_sh (dr.its.fits (n := 16) (by have := dr.brs.len; omega) (by omega)) (by decide), nilT_shaped, _, rfl, ?_⟩
          rw [eqv_nilT]
          cases hz : ds.isEmpty with
          | false =>
            refine iteT ⟨_, rfl, hQ _ _ ⟨ds, ⟨pt, xs, rfl, s7.tupS h6, d6.same s7, dr, lg, fun z => ?_⟩, but_of s7, p6.same s7⟩⟩
            rw [z] at hz
            cases hz
          | true =>
            refine iteF ⟨_, rfl, _, rfl, o, qq, nl, nms, rfl, p6.same s7, hn6.same (wh_same s7), fun H8 v8 d8 b8 p8 h8 it br lgo => ⟨by show 1 ≤ sizeLine; decide, fun t nt => ?_⟩⟩
            have s9 := same_upd (o := HO.tup [v8]) nt
            refine hQ _ _ ⟨[d8], ⟨t, [v8], rfl, SqT.of upd_same, DpAll.same (.cons (h8.same wh_sub) .nil) s9, ⟨⟨Its.mono (Its.cons it Its.nil) (by decide) (by rw [flat_one, List.length_cons]; omega), br.mono (by decide)⟩, lgo 0 [], by simp⟩⟩, (but_of s7).trans (b8.trans (but_of s9)), p8.same s9⟩
      · rintro σ H5 ⟨v6, v7, acc, rfl, hL5, p5, hn5, e5, hj5, ga⟩
        obtain ⟨u0, u1, rfl⟩ : ∃ u0 u1, acc = [u0, u1] := by
          match acc, hj5 with
          | [u0, u1], _ => exact ⟨u0, u1, rfl⟩
        obtain ⟨d0, pt0, xs0, rfl, h0, g0, ok0⟩ := ga u0 (by simp)
        obtain ⟨d1, pt1, xs1, rfl, h1, g1, ok1⟩ := ga u1 (by simp)
        dsimp only
        refine seqS_in (if_in ?_)
        refine ⟨_, rfl, lo, _, _, _, rfl, rfl, SqL.of e5, at0, pt0, xs0, d0, rfl, h0, g0, ok0, fun H6 s6 => ⟨_, rfl, ?_⟩⟩
        refine iteF ⟨_, rfl, lo, _, _, _, rfl, rfl, SqL.of (s6 _ _ e5), at1, pt1, xs1, d1, rfl, s6.tupS h1, g1.same s6, ok1, fun H7 s7 => ⟨_, rfl, ?_⟩⟩
        have s57 := s6.trans s7
        refine iteF ?_
        dsimp only [tNext]
        refine if_in ?_
        refine ⟨_, rfl, lo, _, _, _, rfl, rfl, SqL.of (s57 _ _ e5), at0, nil_in (made_at ok0 (s57.tupS h0) (g0.same s57) fun H8 x0 s8 nx0 b0 => ?_)⟩
        have s58 := s57.trans s8
        refine ⟨_, rfl, lo, _, _, _, rfl, rfl, SqL.of (s58 _ _ e5), at1, nil_in (made_at ok1 (s58.tupS h1) (g1.same s58) fun H9 x1 s9 nx1 b1 => ?_)⟩
        have s59 := s58.trans s9
        obtain ⟨dx0, fs0, hx0⟩ := (b0.same s9).ins
        refine ⟨x0, dx0, fs0, _, rfl, hx0, b1.ty cl cc, nf1, x0, .ref x1, _, d0, rfl, b0.same s9, ok0.fits, .inr ⟨x1, _, d1, rfl, b1, ok1.fits, ?_⟩⟩
        refine ⟨_, rfl, lo, _, _, _, rfl, rfl, SqL.of (s59 _ _ e5), at0, _, rfl, lo, _, _, _, rfl, rfl, SqL.of (s59 _ _ e5), at1, ?_⟩
        refine ⟨.tuple d0, .tuple d1, .tup (s59.tupS h0) (g0.same s59), .tup (s59.tupS h1) (g1.same s59), fits_sh ok0.fits (by decide), fits_sh ok1.fits (by decide), ?_⟩
        refine ⟨rfl, _, rfl, ?_⟩
        rw [neS]
        exact iteF ⟨_, _, _, _, _, _, _, rfl, s59 _ _ hL5⟩
    · rintro σ H1 ⟨v1, v2, v3, v4, v5, v6, v7, rfl, hL⟩
      exact q H1
end
end Tr

/-! K34 -/
/-! ### what the top has written -/
namespace Tr
open PySem PySem.Spec PyProof.Rows L2 Rw GenW
open PySem.W (findIn typeIn keepIn codeIn subIn nsIn hasDictIn mroIn specialIn takesIn kitOne isFn selfFirst makesIn plainGet plainOver exmOne notFirst)
section
variable {P : Program} {w : World} {K : PySem.W.Frag} {mg : Str → Option Value} {base : Heap}
theorem ok_shapes {fI fS fM fF fN fK fB iw pw : Addr} {fdI fdS fdM fdF fdN fdK fdB : FuncData} (FI : Fun K "is_inner" "is_inner" sIn fI fdI) (FS : Fun K "is_shaped" "is_shaped" sSh fS fdS) (FM : Fun K "misshapen" "misshapen" sMis fM fdM)
    (TI : Called K mg "is_inner" ["value"] fI fdI) (TS : Called K mg "is_shaped" ["value", "around"] fS fdS) (TM : Called K mg "misshapen" ["items", "around"] fM fdM) (TF : Called K mg "flat" ["items"] fF fdF) (TN : Called K mg "is_name" ["value"] fN fdN) (TK : Called K mg "is_fork" ["value"] fK fdK) (TB : Called K mg "branches" ["item"] fB fdB)
    (GF : ∀ n, FnOk P w K mg base CX0 (n + 2) fF fdF ["items"] (spFlat K n)) (GN : FnOk P w K mg base CX0 1 fN fdN ["value"] (spName K)) (GK : FnOk P w K mg base CX0 2 fK fdK ["value"] (spFork K)) (GB : FnOk P w K mg base CX0 1 fB fdB ["item"] (spBr K))
    (m_isinstance : mg "isinstance" = none) (m_tuple : mg "tuple" = none) (m_all : mg "all" = none) (m_len : mg "len" = none) (m_str : mg "str" = none)
    (gI : mg "INNER_WORDS" = some (.ref iw)) (hI : ∀ H, SqT K H iw (inner3.map V.str)) {tI : Tok} (mI : mg "MOST_INNER" = some (.int 4 tI)) (gP : mg "PLAIN_WORDS" = some (.ref pw)) (hP : ∀ H, SqT K H pw (plain6.map V.str)) {tW : Tok} (mW : mg "MOST_WITHIN" = some (.int 3 tW)) :
    ∀ n, FnOk P w K mg base CX0 (2 * n + 3) fI fdI ["value"] (spInn K n) ∧ FnOk P w K mg base CX0 (2 * n + 3) fS fdS ["value", "around"] (spSh K n) ∧ FnOk P w K mg base CX0 (2 * n + 4) fM fdM ["items", "around"] (spMis K n) := by
  intro n
  induction n with
  | zero =>
    refine ⟨?_, ?_, ?_⟩
    · refine FI.ok scIn (fun vs H Q E h => ?_) (fun cdv A outer s H vs Q E hr h => ?_)
      · obtain ⟨v, d, rfl, _⟩ := h
        rfl
      · obtain ⟨v, d, rfl, _, ft, _⟩ := h
        exact absurd ft.dep (Nat.not_lt_zero _)
    · refine FS.ok scSh (fun vs H Q E h => ?_) (fun cdv A outer s H vs Q E hr h => ?_)
      · obtain ⟨v, d, a, rfl, _⟩ := h
        rfl
      · obtain ⟨v, d, a, rfl, _, ft, _⟩ := h
        exact absurd ft.dep (Nat.not_lt_zero _)
    · refine FM.ok scMis (fun vs H Q E h => ?_) (fun cdv A outer s H vs Q E hr h => ?_)
      · obtain ⟨p, xs, ds, a, rfl, _⟩ := h
        rfl
      · obtain ⟨p, xs, ds, a, rfl, _, _, ft, _⟩ := h
        exact absurd ft.dep (Nat.not_lt_zero _)
  | succ n ih =>
    obtain ⟨gI0, _, gM0⟩ := ih
    have a := ok_inn FI TM TF n gM0 (GF n) m_isinstance m_tuple m_all m_len gI hI mI
    have b := ok_sh FS TN TI TK n GN gI0 GK m_isinstance m_tuple m_str m_len gP hP mW
    exact ⟨a, b, ok_mis FM TM TS TB n b gM0 GB⟩
theorem ok_ways {fA fO fF fB : Addr} {fdA fdO fdF fdB : FuncData} (FA : Fun K "ways_along" "ways_along" sWA fA fdA) (FO : Fun K "ways_of" "ways_of" sWO fO fdO) (TA : Called K mg "ways_along" ["items", "start", "behind"] fA fdA) (TO : Called K mg "ways_of" ["item", "place", "follows"] fO fdO) (TF : Called K mg "flat" ["items"] fF fdF) (TB : Called K mg "branches" ["item"] fB fdB)
    (GF : ∀ n, FnOk P w K mg base CX0 (n + 2) fF fdF ["items"] (spFlat K n)) (GB : FnOk P w K mg base CX0 1 fB fdB ["item"] (spBr K)) (m_enumerate : mg "enumerate" = none) (m_len : mg "len" = none) :
    ∀ n, FnOk P w K mg base CX0 (2 * n + 3) fO fdO ["item", "place", "follows"] (spWO K n) ∧ FnOk P w K mg base CX0 (2 * n + 4) fA fdA ["items", "start", "behind"] (spWA K n) := by
  intro n
  induction n with
  | zero =>
    have a : FnOk P w K mg base CX0 (2 * 0 + 3) fO fdO ["item", "place", "follows"] (spWO K 0) := by
      refine FO.ok scWO (fun vs H Q E h => ?_) (fun cdv A outer s H vs Q E hr h => ?_)
      · obtain ⟨v, d, s, b, rfl, _⟩ := h
        rfl
      · obtain ⟨v, d, s, b, rfl, _, ft, _⟩ := h
        exact absurd ft.dep (Nat.not_lt_zero _)
    exact ⟨a, ok_wa FA TF TO 0 (GF 0) a m_enumerate m_len⟩
  | succ n ih =>
    have a := ok_wo FO TF TB TA n (GF n) GB ih.2 m_len
    exact ⟨a, ok_wa FA TF TO (n + 1) (GF (n + 1)) a m_enumerate m_len⟩
theorem ok_drawn {fM fS fP fD fZ fI fL : Addr} {fdM fdS fdP fdD fdZ fdI fdL : FuncData} (FM : Fun K "_law_many" "_law_many" sMn fM fdM) (FS : Fun K "_law_some" "_law_some" sSo fS fdS)
    (TM : Called K mg "_law_many" ["_law_pool_here", "_law_names", "_law_deep", "_law_room", "_law_held"] fM fdM) (TS : Called K mg "_law_some" ["_law_pool_here", "_law_names", "_law_deep", "_law_room", "_law_held"] fS fdS)
    (GP : FnOk P w K mg base CX0 2 fP fdP ["_law_pool_here", "_law_some_here"] (spPick K)) (TP : Called K mg "_law_pick" ["_law_pool_here", "_law_some_here"] fP fdP)
    (GD : FnOk P w K mg base CX0 1 fD fdD ["_law_pool_here", "_law_many_here"] (spDraw K)) (TD : Called K mg "_law_draw" ["_law_pool_here", "_law_many_here"] fD fdD)
    (GZ : FnOk P w K mg base CX0 18 fZ fdZ ["_law_items"] (spSz K 16)) (GZL : FnOk P w K mg base CX0 18 fZ fdZ ["_law_items"] (spSzL K 16)) (TZ : Called K mg "_law_size" ["_law_items"] fZ fdZ)
    (GI : FnOk P w K mg base CX0 3 fI fdI ["_law_pool_here", "_law_names"] (spIr K)) (TI : Called K mg "_law_inner" ["_law_pool_here", "_law_names"] fI fdI)
    (GL : FnOk P w K mg base CX0 3 fL fdL ["_law_pool_here", "_law_names"] (spPl K)) (TL : Called K mg "_law_plain" ["_law_pool_here", "_law_names"] fL fdL)
    (m_list : mg "list" = none) (m_range : mg "range" = none) (m_tuple : mg "tuple" = none) : ∀ R, R ≤ 9 → FnOk P w K mg base CX0 (2 * R + 20) fM fdM ["_law_pool_here", "_law_names", "_law_deep", "_law_room", "_law_held"] (spMn K R) := by
  intro R
  induction R with
  | zero => exact fun h => ok_mn 0 FM (ok_so0 FS) TS GD TD GZL TZ m_range m_tuple h
  | succ R ih => exact fun h => ok_mn (R + 1) FM (ok_so R FS (ih (by omega)) TM GP TP GD TD GZ TZ GI TI GL TL m_list (by omega)) TS GD TD GZL TZ m_range m_tuple h
end
def kitB (K : PySem.W.Frag) (cI cN cB : Addr) : Bool := (exmOne K (.ref cI) (.ref cI) == some true) && ((exmOne K (.ref cN) (.ref cN) == some true) && ((kitOne K (.ref cB) (.ref cB) == some true) && ((kitOne K (.type "tuple") (.ref cB) == some false) && ((notFirst K cB (.ref cB) == true) && (notFirst K cB (.type "tuple") == true)))))
theorem kit_of_B {K : PySem.W.Frag} {cI cN cB : Addr} (h : kitB K cI cN cB = true) : (exmOne K (.ref cI) (.ref cI) = some true) ∧ ((exmOne K (.ref cN) (.ref cN) = some true) ∧ ((kitOne K (.ref cB) (.ref cB) = some true) ∧ ((kitOne K (.type "tuple") (.ref cB) = some false) ∧ ((notFirst K cB (.ref cB) = true) ∧ (notFirst K cB (.type "tuple") = true))))) := by
  unfold kitB at h
  simp only [Bool.and_eq_true, beq_iff_eq] at h
  exact h
theorem all_mk {P : Program} {w : World} {K : PySem.W.Frag} {h : Heap} {mg : Str → Option Value} {fa : Addr} (X : K.In h) (G : h.Ns mainGlobals mg) (hfa : mg "law" = some (.ref fa))
    {cD : Addr}
    {nmI qI : Str} {NI : Addr} {bsI : List Value} {snI : List Str} {subI : List Value} {abI : Bool} {colI : Option Bool} {ddI : Option Addr} {m0I m1I m2I m3I m5I : Option Value} {cI fI : Addr}
    {nmN qN : Str} {NN : Addr} {bsN : List Value} {snN : List Str} {subN : List Value} {abN : Bool} {colN : Option Bool} {ddN : Option Addr} {m0N m1N m2N m3N m5N : Option Value} {cN fN : Addr}
    {cB fBI : Addr}
    {odXB : Option Addr} {cdXB : ClassData} {slXB : Array (Option Value)} {tkXB : Tok}
    {fIm : Addr}
    {fNx : Addr}
    {fHd3 : Addr}
    {fFlg : Addr}
    {fLck : Addr}
    {fWrk : Addr}
    {fLnB : Addr}
    {fEB : Addr}
    {pCo pSz fCo fSzB : Addr} {rCo rSz : List Value}
    {aPW : Addr} {odPW : Option Addr} {kPW0 kPW1 kPW2 kPW3 kPW4 kPW5 : Tok} {nPW : Nat} {slPW : Array (Option Value)}
    {aIW : Addr} {odIW : Option Addr} {kIW0 kIW1 kIW2 : Tok} {nIW : Nat} {slIW : Array (Option Value)}
    {aFW : Addr} {odFW : Option Addr} {kFW0 kFW1 kFW2 : Tok} {nFW : Nat} {slFW : Array (Option Value)}
    {aLW : Addr} {odLW : Option Addr} {kLW0 kLW1 kLW2 : Tok} {nLW : Nat} {slLW : Array (Option Value)}
    {aWW : Addr} {odWW : Option Addr} {kWW0 kWW1 : Tok} {nWW : Nat} {slWW : Array (Option Value)}
    {tkL tkM tkN tkW : Tok}
    {fName : Addr} {ocName dcName pmName cdName ctName kVName : Value} {odName anName : Option Addr} {slName : Array (Option Value)}
    {fTups : Addr} {ocTups dcTups pmTups cdTups ctTups kVTups : Value} {odTups anTups : Option Addr} {slTups : Array (Option Value)}
    {fFork : Addr} {ocFork dcFork pmFork cdFork ctFork kVFork : Value} {odFork anFork : Option Addr} {slFork : Array (Option Value)}
    {fBr : Addr} {ocBr dcBr pmBr cdBr ctBr kVBr : Value} {odBr anBr : Option Addr} {slBr : Array (Option Value)}
    {fBeh : Addr} {ocBeh dcBeh pmBeh cdBeh ctBeh kVBeh : Value} {odBeh anBeh : Option Addr} {slBeh : Array (Option Value)}
    {fFlat : Addr} {ocFlat dcFlat pmFlat cdFlat ctFlat kVFlat : Value} {odFlat anFlat : Option Addr} {slFlat : Array (Option Value)}
    {fInn : Addr} {ocInn dcInn pmInn cdInn ctInn kVInn : Value} {odInn anInn : Option Addr} {slInn : Array (Option Value)}
    {fShp : Addr} {ocShp dcShp pmShp cdShp ctShp kVShp : Value} {odShp anShp : Option Addr} {slShp : Array (Option Value)}
    {fMis : Addr} {ocMis dcMis pmMis cdMis ctMis kVMis : Value} {odMis anMis : Option Addr} {slMis : Array (Option Value)}
    {fWr : Addr} {ocWr dcWr pmWr cdWr ctWr kVWr : Value} {odWr anWr : Option Addr} {slWr : Array (Option Value)}
    {fWL : Addr} {ocWL dcWL pmWL cdWL ctWL kVWL : Value} {odWL anWL : Option Addr} {slWL : Array (Option Value)}
    {fHl : Addr} {ocHl dcHl pmHl cdHl ctHl kVHl : Value} {odHl anHl : Option Addr} {slHl : Array (Option Value)}
    {fEach : Addr} {ocEach dcEach pmEach cdEach ctEach kVEach : Value} {odEach anEach : Option Addr} {slEach : Array (Option Value)}
    {fCB : Addr} {ocCB dcCB pmCB cdCB ctCB kVCB : Value} {odCB anCB : Option Addr} {slCB : Array (Option Value)}
    {fIB : Addr} {ocIB dcIB pmIB cdIB ctIB kVIB : Value} {odIB anIB : Option Addr} {slIB : Array (Option Value)}
    {fWA : Addr} {ocWA dcWA pmWA cdWA ctWA kVWA : Value} {odWA anWA : Option Addr} {slWA : Array (Option Value)}
    {fWO : Addr} {ocWO dcWO pmWO cdWO ctWO kVWO : Value} {odWO anWO : Option Addr} {slWO : Array (Option Value)}
    {fAl : Addr} {ocAl dcAl pmAl cdAl ctAl kVAl : Value} {odAl anAl : Option Addr} {slAl : Array (Option Value)}
    {fIx : Addr} {ocIx dcIx pmIx cdIx ctIx kVIx : Value} {odIx anIx : Option Addr} {slIx : Array (Option Value)}
    {fNi : Addr} {ocNi dcNi pmNi cdNi ctNi kVNi : Value} {odNi anNi : Option Addr} {slNi : Array (Option Value)}
    {fFw : Addr} {ocFw dcFw pmFw cdFw ctFw kVFw : Value} {odFw anFw : Option Addr} {slFw : Array (Option Value)}
    {fMay : Addr} {ocMay dcMay pmMay cdMay ctMay kVMay : Value} {odMay anMay : Option Addr} {slMay : Array (Option Value)}
    {fOrd : Addr} {ocOrd dcOrd pmOrd cdOrd ctOrd kVOrd : Value} {odOrd anOrd : Option Addr} {slOrd : Array (Option Value)}
    {fNum : Addr} {ocNum dcNum pmNum cdNum ctNum kVNum : Value} {odNum anNum : Option Addr} {slNum : Array (Option Value)}
    {fPool : Addr} {ocPool dcPool pmPool cdPool ctPool kVPool : Value} {odPool anPool : Option Addr} {slPool : Array (Option Value)}
    {fDr : Addr} {ocDr dcDr pmDr cdDr ctDr kVDr : Value} {odDr anDr : Option Addr} {slDr : Array (Option Value)}
    {fPk : Addr} {ocPk dcPk pmPk cdPk ctPk kVPk : Value} {odPk anPk : Option Addr} {slPk : Array (Option Value)}
    {fPl : Addr} {ocPl dcPl pmPl cdPl ctPl kVPl : Value} {odPl anPl : Option Addr} {slPl : Array (Option Value)}
    {fIr : Addr} {ocIr dcIr pmIr cdIr ctIr kVIr : Value} {odIr anIr : Option Addr} {slIr : Array (Option Value)}
    {fSo : Addr} {ocSo dcSo pmSo cdSo ctSo kVSo : Value} {odSo anSo : Option Addr} {slSo : Array (Option Value)}
    {fMn : Addr} {ocMn dcMn pmMn cdMn ctMn kVMn : Value} {odMn anMn : Option Addr} {slMn : Array (Option Value)}
    {fTu : Addr} {ocTu dcTu pmTu cdTu ctTu kVTu : Value} {odTu anTu : Option Addr} {slTu : Array (Option Value)}
    {fSz : Addr} {ocSz dcSz pmSz cdSz ctSz kVSz : Value} {odSz anSz : Option Addr} {slSz : Array (Option Value)}
    {fLF : Addr} {ocLF dcLF pmLF cdLF ctLF kVLF : Value} {odLF anLF : Option Addr} {slLF : Array (Option Value)}
    {fEv : Addr} {ocEv dcEv pmEv cdEv ctEv kVEv : Value} {odEv anEv : Option Addr} {slEv : Array (Option Value)}
    {fLn : Addr} {ocLn dcLn pmLn cdLn ctLn kVLn : Value} {odLn anLn : Option Addr} {slLn : Array (Option Value)}
    {fAtL : Addr} {ocAtL dcAtL pmAtL cdAtL ctAtL kVAtL : Value} {odAtL anAtL : Option Addr} {slAtL : Array (Option Value)}
    {fNP : Addr} {ocNP dcNP pmNP cdNP ctNP kVNP : Value} {odNP anNP : Option Addr} {slNP : Array (Option Value)}
    {fEn : Addr} {ocEn dcEn pmEn cdEn ctEn kVEn : Value} {odEn anEn : Option Addr} {slEn : Array (Option Value)}
    {fRt : Addr} {ocRt dcRt pmRt cdRt ctRt kVRt : Value} {odRt anRt : Option Addr} {slRt : Array (Option Value)}
    {fL : Addr} {ocL dcL pmL cdL ctL kVL : Value} {odL anL : Option Addr} {slL : Array (Option Value)}
    {ocII dcII pmII cdII ctII kVII : Value} {odII anII : Option Addr} {slII : Array (Option Value)}
    {ocINm dcINm pmINm cdINm ctINm kVINm : Value} {odINm anINm : Option Addr} {slINm : Array (Option Value)}
    {ocBI dcBI pmBI cdBI ctBI kVBI : Value} {odBI anBI : Option Addr} {slBI : Array (Option Value)}
    {ocCo dcCo pmCo cdCo ctCo kVCo : Value} {odCo anCo : Option Addr} {slCo : Array (Option Value)}
    {ocSzB dcSzB pmSzB cdSzB ctSzB kVSzB : Value} {odSzB anSzB : Option Addr} {slSzB : Array (Option Value)}
    {ocIm dcIm pmIm cdIm ctIm kVIm : Value} {odIm anIm : Option Addr} {slIm : Array (Option Value)}
    {ocNx dcNx pmNx cdNx ctNx kVNx : Value} {odNx anNx : Option Addr} {slNx : Array (Option Value)}
    {ocHd3 dcHd3 pmHd3 cdHd3 ctHd3 kVHd3 : Value} {odHd3 anHd3 : Option Addr} {slHd3 : Array (Option Value)}
    {ocFlg dcFlg pmFlg cdFlg ctFlg kVFlg : Value} {odFlg anFlg : Option Addr} {slFlg : Array (Option Value)}
    {ocLck dcLck pmLck cdLck ctLck kVLck : Value} {odLck anLck : Option Addr} {slLck : Array (Option Value)}
    {ocWrk dcWrk pmWrk cdWrk ctWrk kVWrk : Value} {odWrk anWrk : Option Addr} {slWrk : Array (Option Value)}
    {ocLnB dcLnB pmLnB cdLnB ctLnB kVLnB : Value} {odLnB anLnB : Option Addr} {slLnB : Array (Option Value)}
    {ocEB dcEB pmEB cdEB ctEB kVEB : Value} {odEB anEB : Option Addr} {slEB : Array (Option Value)}
    (aI : nsIn K mainGlobals "InvalidItem" = some (some (.ref cI)))
    (xI : K.lookup cI = some (excClassObj nmI qI cI NI bsI [.ref cD, .type "Exception", .type "BaseException", .type "object"] true snI subI abI colI ddI m0I m1I m2I m3I m5I "Exception.__new__"))
    (saI : findIn K (.ref cI) "__setattr__" = some (some (.builtin "object.__setattr__")))
    (gaI : findIn K (.ref cI) "__getattribute__" = some (some (.builtin "BaseException.__getattribute__")))
    (ggI : findIn K (.ref cI) "__getattr__" = some none)
    (nI_place : findIn K (.ref cI) "place" = some none)
    (iI : findIn K (.ref cI) "__init__" = some (some (.ref fI)))
    (tI : typeIn K (.ref fI) = some (.type "function"))
    (kCI : keepIn K (.ref cI) = true)
    (eCI : subIn K (.ref cI) (.type "BaseException") = some true)
    (tCI : typeIn K (.ref cI) = some (.type "type"))
    (hCI : hasDictIn K cI = true)
    (haI : findIn K (.ref cI) "__class__" = some (some (.builtin "object.__class__")))
    (hmI : mroIn K cI (.type "object") = some true)
    (aN : nsIn K mainGlobals "InvalidNumber" = some (some (.ref cN)))
    (xN : K.lookup cN = some (excClassObj nmN qN cN NN bsN [.type "ValueError", .type "Exception", .type "BaseException", .type "object"] true snN subN abN colN ddN m0N m1N m2N m3N m5N "ValueError.__new__"))
    (saN : findIn K (.ref cN) "__setattr__" = some (some (.builtin "object.__setattr__")))
    (gaN : findIn K (.ref cN) "__getattribute__" = some (some (.builtin "BaseException.__getattribute__")))
    (ggN : findIn K (.ref cN) "__getattr__" = some none)
    (nN_value : findIn K (.ref cN) "value" = some none)
    (iN : findIn K (.ref cN) "__init__" = some (some (.ref fN)))
    (tN : typeIn K (.ref fN) = some (.type "function"))
    (kCN : keepIn K (.ref cN) = true)
    (eCN : subIn K (.ref cN) (.type "BaseException") = some true)
    (tCN : typeIn K (.ref cN) = some (.type "type"))
    (hCN : hasDictIn K cN = true)
    (haN : findIn K (.ref cN) "__class__" = some (some (.builtin "object.__class__")))
    (hmN : mroIn K cN (.type "object") = some true)
    (hn : specialIn K (.builtin "object.__class__") "__get__" = some (some (.builtin "getset_descriptor.__get__")))
    (ht : takesIn K (.builtin "object.__class__") = some true)
    (aXB : nsIn K mainGlobals "Body" = some (some (.ref cB)))
    (pgB : plainGet K cB Str.empty = true)
    (hdB : hasDictIn K cB = true)
    (poB : plainOver K cB = true)
    (sXB : findIn K (.ref cB) "__setattr__" = some (some (.builtin "object.__setattr__")))
    (vB_code : findIn K (.ref cB) "_code" = some none)
    (vB_listed : findIn K (.ref cB) "_listed" = some none)
    (vB_ways : findIn K (.ref cB) "_ways" = some none)
    (vB_held : findIn K (.ref cB) "_held" = some none)
    (mkB : makesIn K cB = true)
    (kXB : keepIn K (.ref cB) = true)
    (atB : PySem.W.findCls K (.ref cB) (.type "type") "__name__" = some (.get (.builtin "getset_descriptor.__get__") (.builtin "type.__name__") (.ref cB) (.type "type")))
    (obB : K.lookup cB = some ⟨.type "type", odXB, .cls cdXB, slXB⟩)
    (nameB_ : Str.ofString cdXB.name.toString = ("Body" : Str))
    (slotB : (slXB[2]?).join = some (.str "Body" tkXB))
    (pgcB : plainGet K cB "__class__" = true)
    (rdB : PySem.W.readsIn K cB (.type "type") = true)
    (hXB : findIn K (.ref cB) "__class__" = some (some (.builtin "object.__class__")))
    (hmB2 : mroIn K cB (.type "object") = some true)
    (inB : findIn K (.ref cB) "__init__" = some (some (.ref fBI)))
    (ifB : isFn K (.ref fBI) = true)
    (b_Im : findIn K (.ref cB) "item" = some (some (.ref fIm)))
    (bf_Im : isFn K (.ref fIm) = true)
    (b_Nx : findIn K (.ref cB) "nexts" = some (some (.ref fNx)))
    (bf_Nx : isFn K (.ref fNx) = true)
    (b_Hd3 : findIn K (.ref cB) "held" = some (some (.ref fHd3)))
    (bf_Hd3 : isFn K (.ref fHd3) = true)
    (b_Flg : findIn K (.ref cB) "flags" = some (some (.ref fFlg)))
    (bf_Flg : isFn K (.ref fFlg) = true)
    (b_Lck : findIn K (.ref cB) "locks" = some (some (.ref fLck)))
    (bf_Lck : isFn K (.ref fLck) = true)
    (b_Wrk : findIn K (.ref cB) "works" = some (some (.ref fWrk)))
    (bf_Wrk : isFn K (.ref fWrk) = true)
    (b_LnB : findIn K (.ref cB) "__len__" = some (some (.ref fLnB)))
    (bf_LnB : isFn K (.ref fLnB) = true)
    (b_EB : findIn K (.ref cB) "__eq__" = some (some (.ref fEB)))
    (bf_EB : isFn K (.ref fEB) = true)
    (pcB : findIn K (.ref cB) "code" = some (some (.ref pCo)))
    (pzB : findIn K (.ref cB) "size" = some (some (.ref pSz)))
    (g_pCo : specialIn K (.ref pCo) "__get__" = some (some (.builtin "property.__get__")))
    (t_pCo : takesIn K (.ref pCo) = some true)
    (r_pCo : PySem.W.recIn K pCo "property" = some (.ref fCo :: rCo))
    (g_pSz : specialIn K (.ref pSz) "__get__" = some (some (.builtin "property.__get__")))
    (t_pSz : takesIn K (.ref pSz) = some true)
    (r_pSz : PySem.W.recIn K pSz "property" = some (.ref fSzB :: rSz))
    (gPW : nsIn K mainGlobals "PLAIN_WORDS" = some (some (.ref aPW)))
    (lPW : K.lookup aPW = some ⟨.type "tuple", odPW, .seq #[.str "start" kPW0, .str "cancel" kPW1, .str "set" kPW2, .str "clear" kPW3, .str "take" kPW4, .str "give" kPW5] nPW, slPW⟩)
    (gIW : nsIn K mainGlobals "INNER_WORDS" = some (some (.ref aIW)))
    (lIW : K.lookup aIW = some ⟨.type "tuple", odIW, .seq #[.str "use" kIW0, .str "start" kIW1, .str "test" kIW2] nIW, slIW⟩)
    (gFW : nsIn K mainGlobals "FLAG_WORDS" = some (some (.ref aFW)))
    (lFW : K.lookup aFW = some ⟨.type "tuple", odFW, .seq #[.str "test" kFW0, .str "set" kFW1, .str "clear" kFW2] nFW, slFW⟩)
    (gLW : nsIn K mainGlobals "LOCK_WORDS" = some (some (.ref aLW)))
    (lLW : K.lookup aLW = some ⟨.type "tuple", odLW, .seq #[.str "take" kLW0, .str "give" kLW1, .str "piece" kLW2] nLW, slLW⟩)
    (gWW : nsIn K mainGlobals "WORK_WORDS" = some (some (.ref aWW)))
    (lWW : K.lookup aWW = some ⟨.type "tuple", odWW, .seq #[.str "start" kWW0, .str "cancel" kWW1] nWW, slWW⟩)
    (gML : nsIn K mainGlobals "MOST_LETTERS" = some (some (.int 8 tkL)))
    (gMI : nsIn K mainGlobals "MOST_ITEMS" = some (some (.int 8 tkM)))
    (gMN : nsIn K mainGlobals "MOST_INNER" = some (some (.int 4 tkN)))
    (gMW : nsIn K mainGlobals "MOST_WITHIN" = some (some (.int 3 tkW)))
    (aName : nsIn K mainGlobals "is_name" = some (some (.ref fName)))
    (aTups : nsIn K mainGlobals "are_tuples" = some (some (.ref fTups)))
    (aFork : nsIn K mainGlobals "is_fork" = some (some (.ref fFork)))
    (aBr : nsIn K mainGlobals "branches" = some (some (.ref fBr)))
    (aBeh : nsIn K mainGlobals "locks_behind" = some (some (.ref fBeh)))
    (aFlat : nsIn K mainGlobals "flat" = some (some (.ref fFlat)))
    (aInn : nsIn K mainGlobals "is_inner" = some (some (.ref fInn)))
    (aShp : nsIn K mainGlobals "is_shaped" = some (some (.ref fShp)))
    (aMis : nsIn K mainGlobals "misshapen" = some (some (.ref fMis)))
    (aWr : nsIn K mainGlobals "is_wrong" = some (some (.ref fWr)))
    (aWL : nsIn K mainGlobals "wrong_locks" = some (some (.ref fWL)))
    (aHl : nsIn K mainGlobals "held_along" = some (some (.ref fHl)))
    (aEach : nsIn K mainGlobals "check_each" = some (some (.ref fEach)))
    (aCB : nsIn K mainGlobals "check_body" = some (some (.ref fCB)))
    (aIB : nsIn K mainGlobals "is_body" = some (some (.ref fIB)))
    (aWA : nsIn K mainGlobals "ways_along" = some (some (.ref fWA)))
    (aWO : nsIn K mainGlobals "ways_of" = some (some (.ref fWO)))
    (aAl : nsIn K mainGlobals "are_alike" = some (some (.ref fAl)))
    (aIx : nsIn K mainGlobals "is_index" = some (some (.ref fIx)))
    (aNi : nsIn K mainGlobals "names_in" = some (some (.ref fNi)))
    (aFw : nsIn K mainGlobals "flat_with_pieces" = some (some (.ref fFw)))
    (aMay : nsIn K mainGlobals "may_start" = some (some (.ref fMay)))
    (aOrd : nsIn K mainGlobals "order" = some (some (.ref fOrd)))
    (aNum : nsIn K mainGlobals "_law_numbers" = some (some (.ref fNum)))
    (aPool : nsIn K mainGlobals "_law_pool" = some (some (.ref fPool)))
    (aDr : nsIn K mainGlobals "_law_draw" = some (some (.ref fDr)))
    (aPk : nsIn K mainGlobals "_law_pick" = some (some (.ref fPk)))
    (aPl : nsIn K mainGlobals "_law_plain" = some (some (.ref fPl)))
    (aIr : nsIn K mainGlobals "_law_inner" = some (some (.ref fIr)))
    (aSo : nsIn K mainGlobals "_law_some" = some (some (.ref fSo)))
    (aMn : nsIn K mainGlobals "_law_many" = some (some (.ref fMn)))
    (aTu : nsIn K mainGlobals "_law_tuples" = some (some (.ref fTu)))
    (aSz : nsIn K mainGlobals "_law_size" = some (some (.ref fSz)))
    (aLF : nsIn K mainGlobals "_law_flat" = some (some (.ref fLF)))
    (aEv : nsIn K mainGlobals "_law_every" = some (some (.ref fEv)))
    (aLn : nsIn K mainGlobals "_law_names_in" = some (some (.ref fLn)))
    (aAtL : nsIn K mainGlobals "_law_at" = some (some (.ref fAtL)))
    (aNP : nsIn K mainGlobals "_law_no_place" = some (some (.ref fNP)))
    (aEn : nsIn K mainGlobals "_law_ends" = some (some (.ref fEn)))
    (aRt : nsIn K mainGlobals "_law_right" = some (some (.ref fRt)))
    (aL : nsIn K mainGlobals "law" = some (some (.ref fL)))
    (lName : K.lookup fName = some ⟨ocName, odName, .func (PySem.W.fnOf "is_name" "is_name" (defArgs sName) (defBody sName) (defScope sName) .none kVName dcName pmName anName cdName ctName), slName⟩)
    (ccName : codeIn K cdName "is_name" = true)
    (kfName : keepIn K (.ref fName) = true)
    (lTups : K.lookup fTups = some ⟨ocTups, odTups, .func (PySem.W.fnOf "are_tuples" "are_tuples" (defArgs sTups) (defBody sTups) (defScope sTups) .none kVTups dcTups pmTups anTups cdTups ctTups), slTups⟩)
    (ccTups : codeIn K cdTups "are_tuples" = true)
    (kfTups : keepIn K (.ref fTups) = true)
    (lFork : K.lookup fFork = some ⟨ocFork, odFork, .func (PySem.W.fnOf "is_fork" "is_fork" (defArgs sFork) (defBody sFork) (defScope sFork) .none kVFork dcFork pmFork anFork cdFork ctFork), slFork⟩)
    (ccFork : codeIn K cdFork "is_fork" = true)
    (kfFork : keepIn K (.ref fFork) = true)
    (lBr : K.lookup fBr = some ⟨ocBr, odBr, .func (PySem.W.fnOf "branches" "branches" (defArgs sBr) (defBody sBr) (defScope sBr) .none kVBr dcBr pmBr anBr cdBr ctBr), slBr⟩)
    (ccBr : codeIn K cdBr "branches" = true)
    (kfBr : keepIn K (.ref fBr) = true)
    (lBeh : K.lookup fBeh = some ⟨ocBeh, odBeh, .func (PySem.W.fnOf "locks_behind" "locks_behind" (defArgs sBeh) (defBody sBeh) (defScope sBeh) .none kVBeh dcBeh pmBeh anBeh cdBeh ctBeh), slBeh⟩)
    (ccBeh : codeIn K cdBeh "locks_behind" = true)
    (kfBeh : keepIn K (.ref fBeh) = true)
    (lFlat : K.lookup fFlat = some ⟨ocFlat, odFlat, .func (PySem.W.fnOf "flat" "flat" (defArgs sFlat) (defBody sFlat) (defScope sFlat) .none kVFlat dcFlat pmFlat anFlat cdFlat ctFlat), slFlat⟩)
    (ccFlat : codeIn K cdFlat "flat" = true)
    (kfFlat : keepIn K (.ref fFlat) = true)
    (lInn : K.lookup fInn = some ⟨ocInn, odInn, .func (PySem.W.fnOf "is_inner" "is_inner" (defArgs sIn) (defBody sIn) (defScope sIn) .none kVInn dcInn pmInn anInn cdInn ctInn), slInn⟩)
    (ccInn : codeIn K cdInn "is_inner" = true)
    (kfInn : keepIn K (.ref fInn) = true)
    (lShp : K.lookup fShp = some ⟨ocShp, odShp, .func (PySem.W.fnOf "is_shaped" "is_shaped" (defArgs sSh) (defBody sSh) (defScope sSh) .none kVShp dcShp pmShp anShp cdShp ctShp), slShp⟩)
    (ccShp : codeIn K cdShp "is_shaped" = true)
    (kfShp : keepIn K (.ref fShp) = true)
    (lMis : K.lookup fMis = some ⟨ocMis, odMis, .func (PySem.W.fnOf "misshapen" "misshapen" (defArgs sMis) (defBody sMis) (defScope sMis) .none kVMis dcMis pmMis anMis cdMis ctMis), slMis⟩)
    (ccMis : codeIn K cdMis "misshapen" = true)
    (kfMis : keepIn K (.ref fMis) = true)
    (lWr : K.lookup fWr = some ⟨ocWr, odWr, .func (PySem.W.fnOf "is_wrong" "is_wrong" (defArgs sWr) (defBody sWr) (defScope sWr) .none kVWr dcWr pmWr anWr cdWr ctWr), slWr⟩)
    (ccWr : codeIn K cdWr "is_wrong" = true)
    (kfWr : keepIn K (.ref fWr) = true)
    (lWL : K.lookup fWL = some ⟨ocWL, odWL, .func (PySem.W.fnOf "wrong_locks" "wrong_locks" (defArgs sWL) (defBody sWL) (defScope sWL) .none kVWL dcWL pmWL anWL cdWL ctWL), slWL⟩)
    (ccWL : codeIn K cdWL "wrong_locks" = true)
    (kfWL : keepIn K (.ref fWL) = true)
    (lHl : K.lookup fHl = some ⟨ocHl, odHl, .func (PySem.W.fnOf "held_along" "held_along" (defArgs sHl) (defBody sHl) (defScope sHl) .none kVHl dcHl pmHl anHl cdHl ctHl), slHl⟩)
    (ccHl : codeIn K cdHl "held_along" = true)
    (kfHl : keepIn K (.ref fHl) = true)
    (lEach : K.lookup fEach = some ⟨ocEach, odEach, .func (PySem.W.fnOf "check_each" "check_each" (defArgs sEach) (defBody sEach) (defScope sEach) .none kVEach dcEach pmEach anEach cdEach ctEach), slEach⟩)
    (ccEach : codeIn K cdEach "check_each" = true)
    (kfEach : keepIn K (.ref fEach) = true)
    (lCB : K.lookup fCB = some ⟨ocCB, odCB, .func (PySem.W.fnOf "check_body" "check_body" (defArgs sCB) (defBody sCB) (defScope sCB) .none kVCB dcCB pmCB anCB cdCB ctCB), slCB⟩)
    (ccCB : codeIn K cdCB "check_body" = true)
    (kfCB : keepIn K (.ref fCB) = true)
    (lIB : K.lookup fIB = some ⟨ocIB, odIB, .func (PySem.W.fnOf "is_body" "is_body" (defArgs sIB) (defBody sIB) (defScope sIB) .none kVIB dcIB pmIB anIB cdIB ctIB), slIB⟩)
    (ccIB : codeIn K cdIB "is_body" = true)
    (kfIB : keepIn K (.ref fIB) = true)
    (lWA : K.lookup fWA = some ⟨ocWA, odWA, .func (PySem.W.fnOf "ways_along" "ways_along" (defArgs sWA) (defBody sWA) (defScope sWA) .none kVWA dcWA pmWA anWA cdWA ctWA), slWA⟩)
    (ccWA : codeIn K cdWA "ways_along" = true)
    (kfWA : keepIn K (.ref fWA) = true)
    (lWO : K.lookup fWO = some ⟨ocWO, odWO, .func (PySem.W.fnOf "ways_of" "ways_of" (defArgs sWO) (defBody sWO) (defScope sWO) .none kVWO dcWO pmWO anWO cdWO ctWO), slWO⟩)
    (ccWO : codeIn K cdWO "ways_of" = true)
    (kfWO : keepIn K (.ref fWO) = true)
    (lAl : K.lookup fAl = some ⟨ocAl, odAl, .func (PySem.W.fnOf "are_alike" "are_alike" (defArgs sAl) (defBody sAl) (defScope sAl) .none kVAl dcAl pmAl anAl cdAl ctAl), slAl⟩)
    (ccAl : codeIn K cdAl "are_alike" = true)
    (kfAl : keepIn K (.ref fAl) = true)
    (lIx : K.lookup fIx = some ⟨ocIx, odIx, .func (PySem.W.fnOf "is_index" "is_index" (defArgs sIxF) (defBody sIxF) (defScope sIxF) .none kVIx dcIx pmIx anIx cdIx ctIx), slIx⟩)
    (ccIx : codeIn K cdIx "is_index" = true)
    (kfIx : keepIn K (.ref fIx) = true)
    (lNi : K.lookup fNi = some ⟨ocNi, odNi, .func (PySem.W.fnOf "names_in" "names_in" (defArgs sNi) (defBody sNi) (defScope sNi) .none kVNi dcNi pmNi anNi cdNi ctNi), slNi⟩)
    (ccNi : codeIn K cdNi "names_in" = true)
    (kfNi : keepIn K (.ref fNi) = true)
    (lFw : K.lookup fFw = some ⟨ocFw, odFw, .func (PySem.W.fnOf "flat_with_pieces" "flat_with_pieces" (defArgs sFw) (defBody sFw) (defScope sFw) .none kVFw dcFw pmFw anFw cdFw ctFw), slFw⟩)
    (ccFw : codeIn K cdFw "flat_with_pieces" = true)
    (kfFw : keepIn K (.ref fFw) = true)
    (lMay : K.lookup fMay = some ⟨ocMay, odMay, .func (PySem.W.fnOf "may_start" "may_start" (defArgs sMay) (defBody sMay) (defScope sMay) .none kVMay dcMay pmMay anMay cdMay ctMay), slMay⟩)
    (ccMay : codeIn K cdMay "may_start" = true)
    (kfMay : keepIn K (.ref fMay) = true)
    (lOrd : K.lookup fOrd = some ⟨ocOrd, odOrd, .func (PySem.W.fnOf "order" "order" (defArgs sOrd) (defBody sOrd) (defScope sOrd) .none kVOrd dcOrd pmOrd anOrd cdOrd ctOrd), slOrd⟩)
    (ccOrd : codeIn K cdOrd "order" = true)
    (kfOrd : keepIn K (.ref fOrd) = true)
    (lNum : K.lookup fNum = some ⟨ocNum, odNum, .func (PySem.W.fnOf "_law_numbers" "_law_numbers" (defArgs sNum) (defBody sNum) (defScope sNum) .none kVNum dcNum pmNum anNum cdNum ctNum), slNum⟩)
    (ccNum : codeIn K cdNum "_law_numbers" = true)
    (kfNum : keepIn K (.ref fNum) = true)
    (lPool : K.lookup fPool = some ⟨ocPool, odPool, .func (PySem.W.fnOf "_law_pool" "_law_pool" (defArgs sPool) (defBody sPool) (defScope sPool) .none kVPool dcPool pmPool anPool cdPool ctPool), slPool⟩)
    (ccPool : codeIn K cdPool "_law_pool" = true)
    (kfPool : keepIn K (.ref fPool) = true)
    (lDr : K.lookup fDr = some ⟨ocDr, odDr, .func (PySem.W.fnOf "_law_draw" "_law_draw" (defArgs sDraw) (defBody sDraw) (defScope sDraw) .none kVDr dcDr pmDr anDr cdDr ctDr), slDr⟩)
    (ccDr : codeIn K cdDr "_law_draw" = true)
    (kfDr : keepIn K (.ref fDr) = true)
    (lPk : K.lookup fPk = some ⟨ocPk, odPk, .func (PySem.W.fnOf "_law_pick" "_law_pick" (defArgs sPick) (defBody sPick) (defScope sPick) .none kVPk dcPk pmPk anPk cdPk ctPk), slPk⟩)
    (ccPk : codeIn K cdPk "_law_pick" = true)
    (kfPk : keepIn K (.ref fPk) = true)
    (lPl : K.lookup fPl = some ⟨ocPl, odPl, .func (PySem.W.fnOf "_law_plain" "_law_plain" (defArgs sPl) (defBody sPl) (defScope sPl) .none kVPl dcPl pmPl anPl cdPl ctPl), slPl⟩)
    (ccPl : codeIn K cdPl "_law_plain" = true)
    (kfPl : keepIn K (.ref fPl) = true)
    (lIr : K.lookup fIr = some ⟨ocIr, odIr, .func (PySem.W.fnOf "_law_inner" "_law_inner" (defArgs sIr) (defBody sIr) (defScope sIr) .none kVIr dcIr pmIr anIr cdIr ctIr), slIr⟩)
    (ccIr : codeIn K cdIr "_law_inner" = true)
    (kfIr : keepIn K (.ref fIr) = true)
    (lSo : K.lookup fSo = some ⟨ocSo, odSo, .func (PySem.W.fnOf "_law_some" "_law_some" (defArgs sSo) (defBody sSo) (defScope sSo) .none kVSo dcSo pmSo anSo cdSo ctSo), slSo⟩)
    (ccSo : codeIn K cdSo "_law_some" = true)
    (kfSo : keepIn K (.ref fSo) = true)
    (lMn : K.lookup fMn = some ⟨ocMn, odMn, .func (PySem.W.fnOf "_law_many" "_law_many" (defArgs sMn) (defBody sMn) (defScope sMn) .none kVMn dcMn pmMn anMn cdMn ctMn), slMn⟩)
    (ccMn : codeIn K cdMn "_law_many" = true)
    (kfMn : keepIn K (.ref fMn) = true)
    (lTu : K.lookup fTu = some ⟨ocTu, odTu, .func (PySem.W.fnOf "_law_tuples" "_law_tuples" (defArgs sTu) (defBody sTu) (defScope sTu) .none kVTu dcTu pmTu anTu cdTu ctTu), slTu⟩)
    (ccTu : codeIn K cdTu "_law_tuples" = true)
    (kfTu : keepIn K (.ref fTu) = true)
    (lSz : K.lookup fSz = some ⟨ocSz, odSz, .func (PySem.W.fnOf "_law_size" "_law_size" (defArgs sSz) (defBody sSz) (defScope sSz) .none kVSz dcSz pmSz anSz cdSz ctSz), slSz⟩)
    (ccSz : codeIn K cdSz "_law_size" = true)
    (kfSz : keepIn K (.ref fSz) = true)
    (lLF : K.lookup fLF = some ⟨ocLF, odLF, .func (PySem.W.fnOf "_law_flat" "_law_flat" (defArgs sLF) (defBody sLF) (defScope sLF) .none kVLF dcLF pmLF anLF cdLF ctLF), slLF⟩)
    (ccLF : codeIn K cdLF "_law_flat" = true)
    (kfLF : keepIn K (.ref fLF) = true)
    (lEv : K.lookup fEv = some ⟨ocEv, odEv, .func (PySem.W.fnOf "_law_every" "_law_every" (defArgs sEv) (defBody sEv) (defScope sEv) .none kVEv dcEv pmEv anEv cdEv ctEv), slEv⟩)
    (ccEv : codeIn K cdEv "_law_every" = true)
    (kfEv : keepIn K (.ref fEv) = true)
    (lLn : K.lookup fLn = some ⟨ocLn, odLn, .func (PySem.W.fnOf "_law_names_in" "_law_names_in" (defArgs sLn) (defBody sLn) (defScope sLn) .none kVLn dcLn pmLn anLn cdLn ctLn), slLn⟩)
    (ccLn : codeIn K cdLn "_law_names_in" = true)
    (kfLn : keepIn K (.ref fLn) = true)
    (lAtL : K.lookup fAtL = some ⟨ocAtL, odAtL, .func (PySem.W.fnOf "_law_at" "_law_at" (defArgs sAtL) (defBody sAtL) (defScope sAtL) .none kVAtL dcAtL pmAtL anAtL cdAtL ctAtL), slAtL⟩)
    (ccAtL : codeIn K cdAtL "_law_at" = true)
    (kfAtL : keepIn K (.ref fAtL) = true)
    (lNP : K.lookup fNP = some ⟨ocNP, odNP, .func (PySem.W.fnOf "_law_no_place" "_law_no_place" (defArgs sNP) (defBody sNP) (defScope sNP) .none kVNP dcNP pmNP anNP cdNP ctNP), slNP⟩)
    (ccNP : codeIn K cdNP "_law_no_place" = true)
    (kfNP : keepIn K (.ref fNP) = true)
    (lEn : K.lookup fEn = some ⟨ocEn, odEn, .func (PySem.W.fnOf "_law_ends" "_law_ends" (defArgs sEn) (defBody sEn) (defScope sEn) .none kVEn dcEn pmEn anEn cdEn ctEn), slEn⟩)
    (ccEn : codeIn K cdEn "_law_ends" = true)
    (kfEn : keepIn K (.ref fEn) = true)
    (lRt : K.lookup fRt = some ⟨ocRt, odRt, .func (PySem.W.fnOf "_law_right" "_law_right" (defArgs sRt) (defBody sRt) (defScope sRt) .none kVRt dcRt pmRt anRt cdRt ctRt), slRt⟩)
    (ccRt : codeIn K cdRt "_law_right" = true)
    (kfRt : keepIn K (.ref fRt) = true)
    (lL : K.lookup fL = some ⟨ocL, odL, .func (PySem.W.fnOf "law" "law" (defArgs sLaw) (defBody sLaw) (defScope sLaw) .none kVL dcL pmL anL cdL ctL), slL⟩)
    (ccL : codeIn K cdL "law" = true)
    (kfL : keepIn K (.ref fL) = true)
    (lII : K.lookup fI = some ⟨ocII, odII, .func (PySem.W.fnOf "__init__" "InvalidItem.__init__" (defArgs sII) (defBody sII) (defScope sII) .none kVII dcII pmII anII cdII ctII), slII⟩)
    (ccII : codeIn K cdII "InvalidItem.__init__" = true)
    (kfII : keepIn K (.ref fI) = true)
    (lINm : K.lookup fN = some ⟨ocINm, odINm, .func (PySem.W.fnOf "__init__" "InvalidNumber.__init__" (defArgs sINum) (defBody sINum) (defScope sINum) .none kVINm dcINm pmINm anINm cdINm ctINm), slINm⟩)
    (ccINm : codeIn K cdINm "InvalidNumber.__init__" = true)
    (kfINm : keepIn K (.ref fN) = true)
    (lBI : K.lookup fBI = some ⟨ocBI, odBI, .func (PySem.W.fnOf "__init__" "Body.__init__" (defArgs sBI) (defBody sBI) (defScope sBI) .none kVBI dcBI pmBI anBI cdBI ctBI), slBI⟩)
    (ccBI : codeIn K cdBI "Body.__init__" = true)
    (kfBI : keepIn K (.ref fBI) = true)
    (lCo : K.lookup fCo = some ⟨ocCo, odCo, .func (PySem.W.fnOf "code" "Body.code" (defArgs sCo) (defBody sCo) (defScope sCo) .none kVCo dcCo pmCo anCo cdCo ctCo), slCo⟩)
    (ccCo : codeIn K cdCo "Body.code" = true)
    (kfCo : keepIn K (.ref fCo) = true)
    (lSzB : K.lookup fSzB = some ⟨ocSzB, odSzB, .func (PySem.W.fnOf "size" "Body.size" (defArgs sSzB) (defBody sSzB) (defScope sSzB) .none kVSzB dcSzB pmSzB anSzB cdSzB ctSzB), slSzB⟩)
    (ccSzB : codeIn K cdSzB "Body.size" = true)
    (kfSzB : keepIn K (.ref fSzB) = true)
    (lIm : K.lookup fIm = some ⟨ocIm, odIm, .func (PySem.W.fnOf "item" "Body.item" (defArgs sIm) (defBody sIm) (defScope sIm) .none kVIm dcIm pmIm anIm cdIm ctIm), slIm⟩)
    (ccIm : codeIn K cdIm "Body.item" = true)
    (kfIm : keepIn K (.ref fIm) = true)
    (lNx : K.lookup fNx = some ⟨ocNx, odNx, .func (PySem.W.fnOf "nexts" "Body.nexts" (defArgs sNx) (defBody sNx) (defScope sNx) .none kVNx dcNx pmNx anNx cdNx ctNx), slNx⟩)
    (ccNx : codeIn K cdNx "Body.nexts" = true)
    (kfNx : keepIn K (.ref fNx) = true)
    (lHd3 : K.lookup fHd3 = some ⟨ocHd3, odHd3, .func (PySem.W.fnOf "held" "Body.held" (defArgs sHd3) (defBody sHd3) (defScope sHd3) .none kVHd3 dcHd3 pmHd3 anHd3 cdHd3 ctHd3), slHd3⟩)
    (ccHd3 : codeIn K cdHd3 "Body.held" = true)
    (kfHd3 : keepIn K (.ref fHd3) = true)
    (lFlg : K.lookup fFlg = some ⟨ocFlg, odFlg, .func (PySem.W.fnOf "flags" "Body.flags" (defArgs sFlg) (defBody sFlg) (defScope sFlg) .none kVFlg dcFlg pmFlg anFlg cdFlg ctFlg), slFlg⟩)
    (ccFlg : codeIn K cdFlg "Body.flags" = true)
    (kfFlg : keepIn K (.ref fFlg) = true)
    (lLck : K.lookup fLck = some ⟨ocLck, odLck, .func (PySem.W.fnOf "locks" "Body.locks" (defArgs sLck) (defBody sLck) (defScope sLck) .none kVLck dcLck pmLck anLck cdLck ctLck), slLck⟩)
    (ccLck : codeIn K cdLck "Body.locks" = true)
    (kfLck : keepIn K (.ref fLck) = true)
    (lWrk : K.lookup fWrk = some ⟨ocWrk, odWrk, .func (PySem.W.fnOf "works" "Body.works" (defArgs sWrk) (defBody sWrk) (defScope sWrk) .none kVWrk dcWrk pmWrk anWrk cdWrk ctWrk), slWrk⟩)
    (ccWrk : codeIn K cdWrk "Body.works" = true)
    (kfWrk : keepIn K (.ref fWrk) = true)
    (lLnB : K.lookup fLnB = some ⟨ocLnB, odLnB, .func (PySem.W.fnOf "__len__" "Body.__len__" (defArgs sLnB) (defBody sLnB) (defScope sLnB) .none kVLnB dcLnB pmLnB anLnB cdLnB ctLnB), slLnB⟩)
    (ccLnB : codeIn K cdLnB "Body.__len__" = true)
    (kfLnB : keepIn K (.ref fLnB) = true)
    (lEB : K.lookup fEB = some ⟨ocEB, odEB, .func (PySem.W.fnOf "__eq__" "Body.__eq__" (defArgs sEB) (defBody sEB) (defScope sEB) .none kVEB dcEB pmEB anEB cdEB ctEB), slEB⟩)
    (ccEB : codeIn K cdEB "Body.__eq__" = true)
    (kfEB : keepIn K (.ref fEB) = true)
    (kb : kitB K cI cN cB = true)
    (z_isinstance : nsIn K mainGlobals "isinstance" = some none)
    (z_str : nsIn K mainGlobals "str" = some none)
    (z_len : nsIn K mainGlobals "len" = some none)
    (z_all : nsIn K mainGlobals "all" = some none)
    (z_tuple : nsIn K mainGlobals "tuple" = some none)
    (z_enumerate : nsIn K mainGlobals "enumerate" = some none)
    (z_list : nsIn K mainGlobals "list" = some none)
    (z_max : nsIn K mainGlobals "max" = some none)
    (z_range : nsIn K mainGlobals "range" = some none)
    (z_int : nsIn K mainGlobals "int" = some none)
    (z_bool : nsIn K mainGlobals "bool" = some none)
    (z_repr : nsIn K mainGlobals "repr" = some none)
    (z_sum : nsIn K mainGlobals "sum" = some none)
    (z_sorted : nsIn K mainGlobals "sorted" = some none)
    (z_set : nsIn K mainGlobals "set" = some none)
    : ∃ fd : FuncData, (∀ (s : Shared) (v : Value), BindsTo s fd ⟨[v], []⟩ [("_law_script", v)]) ∧ ∀ base : Heap, K.In base → base.Ns mainGlobals mg → FnOkG P w K mg base CX0 42 fa fd ["_law_script"] (spLaw K) := by
  have e := hfa.symm.trans (PySem.W.mg_of X G aL)
  cases e
  obtain ⟨e_II, e_NN, k_BB, k_TB, n_BB, n_BT⟩ := kit_of_B kb
  have FName := fun_mk (st := sName) lName ccName kfName
  have FTups := fun_mk (st := sTups) lTups ccTups kfTups
  have FFork := fun_mk (st := sFork) lFork ccFork kfFork
  have FBr := fun_mk (st := sBr) lBr ccBr kfBr
  have FBeh := fun_mk (st := sBeh) lBeh ccBeh kfBeh
  have FFlat := fun_mk (st := sFlat) lFlat ccFlat kfFlat
  have FInn := fun_mk (st := sIn) lInn ccInn kfInn
  have FShp := fun_mk (st := sSh) lShp ccShp kfShp
  have FMis := fun_mk (st := sMis) lMis ccMis kfMis
  have FWr := fun_mk (st := sWr) lWr ccWr kfWr
  have FWL := fun_mk (st := sWL) lWL ccWL kfWL
  have FHl := fun_mk (st := sHl) lHl ccHl kfHl
  have FEach := fun_mk (st := sEach) lEach ccEach kfEach
  have FCB := fun_mk (st := sCB) lCB ccCB kfCB
  have FIB := fun_mk (st := sIB) lIB ccIB kfIB
  have FWA := fun_mk (st := sWA) lWA ccWA kfWA
  have FWO := fun_mk (st := sWO) lWO ccWO kfWO
  have FAl := fun_mk (st := sAl) lAl ccAl kfAl
  have FIx := fun_mk (st := sIxF) lIx ccIx kfIx
  have FNi := fun_mk (st := sNi) lNi ccNi kfNi
  have FFw := fun_mk (st := sFw) lFw ccFw kfFw
  have FMay := fun_mk (st := sMay) lMay ccMay kfMay
  have FOrd := fun_mk (st := sOrd) lOrd ccOrd kfOrd
  have FNum := fun_mk (st := sNum) lNum ccNum kfNum
  have FPool := fun_mk (st := sPool) lPool ccPool kfPool
  have FDr := fun_mk (st := sDraw) lDr ccDr kfDr
  have FPk := fun_mk (st := sPick) lPk ccPk kfPk
  have FPl := fun_mk (st := sPl) lPl ccPl kfPl
  have FIr := fun_mk (st := sIr) lIr ccIr kfIr
  have FSo := fun_mk (st := sSo) lSo ccSo kfSo
  have FMn := fun_mk (st := sMn) lMn ccMn kfMn
  have FTu := fun_mk (st := sTu) lTu ccTu kfTu
  have FSz := fun_mk (st := sSz) lSz ccSz kfSz
  have FLF := fun_mk (st := sLF) lLF ccLF kfLF
  have FEv := fun_mk (st := sEv) lEv ccEv kfEv
  have FLn := fun_mk (st := sLn) lLn ccLn kfLn
  have FAtL := fun_mk (st := sAtL) lAtL ccAtL kfAtL
  have FNP := fun_mk (st := sNP) lNP ccNP kfNP
  have FEn := fun_mk (st := sEn) lEn ccEn kfEn
  have FRt := fun_mk (st := sRt) lRt ccRt kfRt
  have FL := fun_mk (st := sLaw) lL ccL kfL
  have FII := fun_mk (st := sII) lII ccII kfII
  have FINm := fun_mk (st := sINum) lINm ccINm kfINm
  have FBI := fun_mk (st := sBI) lBI ccBI kfBI
  have FCo := fun_mk (st := sCo) lCo ccCo kfCo
  have FSzB := fun_mk (st := sSzB) lSzB ccSzB kfSzB
  have FIm := fun_mk (st := sIm) lIm ccIm kfIm
  have FNx := fun_mk (st := sNx) lNx ccNx kfNx
  have FHd3 := fun_mk (st := sHd3) lHd3 ccHd3 kfHd3
  have FFlg := fun_mk (st := sFlg) lFlg ccFlg kfFlg
  have FLck := fun_mk (st := sLck) lLck ccLck kfLck
  have FWrk := fun_mk (st := sWrk) lWrk ccWrk kfWrk
  have FLnB := fun_mk (st := sLnB) lLnB ccLnB kfLnB
  have FEB := fun_mk (st := sEB) lEB ccEB kfEB
  have z : ∀ {x : Str}, nsIn K mainGlobals x = some none → mg x = none := fun e => PySem.W.mg_none_of X G e
  have CName : Called K mg "is_name" ["value"] fName _ := ⟨PySem.W.mg_of X G aName, kfName, FName.binds (ps := ["value"]) fun _ _ _ _ _ _ us hl => match us, hl with | [_], _ => rfl⟩
  have CTups : Called K mg "are_tuples" ["values"] fTups _ := ⟨PySem.W.mg_of X G aTups, kfTups, FTups.binds (ps := ["values"]) fun _ _ _ _ _ _ us hl => match us, hl with | [_], _ => rfl⟩
  have CFork : Called K mg "is_fork" ["value"] fFork _ := ⟨PySem.W.mg_of X G aFork, kfFork, FFork.binds (ps := ["value"]) fun _ _ _ _ _ _ us hl => match us, hl with | [_], _ => rfl⟩
  have CBr : Called K mg "branches" ["item"] fBr _ := ⟨PySem.W.mg_of X G aBr, kfBr, FBr.binds (ps := ["item"]) fun _ _ _ _ _ _ us hl => match us, hl with | [_], _ => rfl⟩
  have CBeh : Called K mg "locks_behind" ["item", "held"] fBeh _ := ⟨PySem.W.mg_of X G aBeh, kfBeh, FBeh.binds (ps := ["item", "held"]) fun _ _ _ _ _ _ us hl => match us, hl with | [_, _], _ => rfl⟩
  have CFlat : Called K mg "flat" ["items"] fFlat _ := ⟨PySem.W.mg_of X G aFlat, kfFlat, FFlat.binds (ps := ["items"]) fun _ _ _ _ _ _ us hl => match us, hl with | [_], _ => rfl⟩
  have CInn : Called K mg "is_inner" ["value"] fInn _ := ⟨PySem.W.mg_of X G aInn, kfInn, FInn.binds (ps := ["value"]) fun _ _ _ _ _ _ us hl => match us, hl with | [_], _ => rfl⟩
  have CShp : Called K mg "is_shaped" ["value", "around"] fShp _ := ⟨PySem.W.mg_of X G aShp, kfShp, FShp.binds (ps := ["value", "around"]) fun _ _ _ _ _ _ us hl => match us, hl with | [_, _], _ => rfl⟩
  have CMis : Called K mg "misshapen" ["items", "around"] fMis _ := ⟨PySem.W.mg_of X G aMis, kfMis, FMis.binds (ps := ["items", "around"]) fun _ _ _ _ _ _ us hl => match us, hl with | [_, _], _ => rfl⟩
  have CWr : Called K mg "is_wrong" ["item", "later", "around", "taken"] fWr _ := ⟨PySem.W.mg_of X G aWr, kfWr, FWr.binds (ps := ["item", "later", "around", "taken"]) fun _ _ _ _ _ _ us hl => match us, hl with | [_, _, _, _], _ => rfl⟩
  have CWL : Called K mg "wrong_locks" ["items", "around"] fWL _ := ⟨PySem.W.mg_of X G aWL, kfWL, FWL.binds (ps := ["items", "around"]) fun _ _ _ _ _ _ us hl => match us, hl with | [_, _], _ => rfl⟩
  have CHl : Called K mg "held_along" ["items", "around"] fHl _ := ⟨PySem.W.mg_of X G aHl, kfHl, FHl.binds (ps := ["items", "around"]) fun _ _ _ _ _ _ us hl => match us, hl with | [_, _], _ => rfl⟩
  have CEach : Called K mg "check_each" ["faults"] fEach _ := ⟨PySem.W.mg_of X G aEach, kfEach, FEach.binds (ps := ["faults"]) fun _ _ _ _ _ _ us hl => match us, hl with | [_], _ => rfl⟩
  have CCB : Called K mg "check_body" ["value"] fCB _ := ⟨PySem.W.mg_of X G aCB, kfCB, FCB.binds (ps := ["value"]) fun _ _ _ _ _ _ us hl => match us, hl with | [_], _ => rfl⟩
  have CIB : Called K mg "is_body" ["value"] fIB _ := ⟨PySem.W.mg_of X G aIB, kfIB, FIB.binds (ps := ["value"]) fun _ _ _ _ _ _ us hl => match us, hl with | [_], _ => rfl⟩
  have CWA : Called K mg "ways_along" ["items", "start", "behind"] fWA _ := ⟨PySem.W.mg_of X G aWA, kfWA, FWA.binds (ps := ["items", "start", "behind"]) fun _ _ _ _ _ _ us hl => match us, hl with | [_, _, _], _ => rfl⟩
  have CWO : Called K mg "ways_of" ["item", "place", "follows"] fWO _ := ⟨PySem.W.mg_of X G aWO, kfWO, FWO.binds (ps := ["item", "place", "follows"]) fun _ _ _ _ _ _ us hl => match us, hl with | [_, _, _], _ => rfl⟩
  have CAl : Called K mg "are_alike" ["one", "other"] fAl _ := ⟨PySem.W.mg_of X G aAl, kfAl, FAl.binds (ps := ["one", "other"]) fun _ _ _ _ _ _ us hl => match us, hl with | [_, _], _ => rfl⟩
  have CIx : Called K mg "is_index" ["value", "many"] fIx _ := ⟨PySem.W.mg_of X G aIx, kfIx, FIx.binds (ps := ["value", "many"]) fun _ _ _ _ _ _ us hl => match us, hl with | [_, _], _ => rfl⟩
  have CNi : Called K mg "names_in" ["items", "words"] fNi _ := ⟨PySem.W.mg_of X G aNi, kfNi, FNi.binds (ps := ["items", "words"]) fun _ _ _ _ _ _ us hl => match us, hl with | [_, _], _ => rfl⟩
  have CFw : Called K mg "flat_with_pieces" ["items"] fFw _ := ⟨PySem.W.mg_of X G aFw, kfFw, FFw.binds (ps := ["items"]) fun _ _ _ _ _ _ us hl => match us, hl with | [_], _ => rfl⟩
  have CMay : Called K mg "may_start" ["items"] fMay _ := ⟨PySem.W.mg_of X G aMay, kfMay, FMay.binds (ps := ["items"]) fun _ _ _ _ _ _ us hl => match us, hl with | [_], _ => rfl⟩
  have COrd : Called K mg "order" ["items"] fOrd _ := ⟨PySem.W.mg_of X G aOrd, kfOrd, FOrd.binds (ps := ["items"]) fun _ _ _ _ _ _ us hl => match us, hl with | [_], _ => rfl⟩
  have CNum : Called K mg "_law_numbers" ["_law_cell", "_law_salt", "_law_sizes"] fNum _ := ⟨PySem.W.mg_of X G aNum, kfNum, FNum.binds (ps := ["_law_cell", "_law_salt", "_law_sizes"]) fun _ _ _ _ _ _ us hl => match us, hl with | [_, _, _], _ => rfl⟩
  have CPool : Called K mg "_law_pool" ["_law_cell", "_law_salt", "_law_many_here"] fPool _ := ⟨PySem.W.mg_of X G aPool, kfPool, FPool.binds (ps := ["_law_cell", "_law_salt", "_law_many_here"]) fun _ _ _ _ _ _ us hl => match us, hl with | [_, _, _], _ => rfl⟩
  have CDr : Called K mg "_law_draw" ["_law_pool_here", "_law_many_here"] fDr _ := ⟨PySem.W.mg_of X G aDr, kfDr, FDr.binds (ps := ["_law_pool_here", "_law_many_here"]) fun _ _ _ _ _ _ us hl => match us, hl with | [_, _], _ => rfl⟩
  have CPk : Called K mg "_law_pick" ["_law_pool_here", "_law_some_here"] fPk _ := ⟨PySem.W.mg_of X G aPk, kfPk, FPk.binds (ps := ["_law_pool_here", "_law_some_here"]) fun _ _ _ _ _ _ us hl => match us, hl with | [_, _], _ => rfl⟩
  have CPl : Called K mg "_law_plain" ["_law_pool_here", "_law_names"] fPl _ := ⟨PySem.W.mg_of X G aPl, kfPl, FPl.binds (ps := ["_law_pool_here", "_law_names"]) fun _ _ _ _ _ _ us hl => match us, hl with | [_, _], _ => rfl⟩
  have CIr : Called K mg "_law_inner" ["_law_pool_here", "_law_names"] fIr _ := ⟨PySem.W.mg_of X G aIr, kfIr, FIr.binds (ps := ["_law_pool_here", "_law_names"]) fun _ _ _ _ _ _ us hl => match us, hl with | [_, _], _ => rfl⟩
  have CSo : Called K mg "_law_some" ["_law_pool_here", "_law_names", "_law_deep", "_law_room", "_law_held"] fSo _ := ⟨PySem.W.mg_of X G aSo, kfSo, FSo.binds (ps := ["_law_pool_here", "_law_names", "_law_deep", "_law_room", "_law_held"]) fun _ _ _ _ _ _ us hl => match us, hl with | [_, _, _, _, _], _ => rfl⟩
  have CMn : Called K mg "_law_many" ["_law_pool_here", "_law_names", "_law_deep", "_law_room", "_law_held"] fMn _ := ⟨PySem.W.mg_of X G aMn, kfMn, FMn.binds (ps := ["_law_pool_here", "_law_names", "_law_deep", "_law_room", "_law_held"]) fun _ _ _ _ _ _ us hl => match us, hl with | [_, _, _, _, _], _ => rfl⟩
  have CTu : Called K mg "_law_tuples" ["_law_item"] fTu _ := ⟨PySem.W.mg_of X G aTu, kfTu, FTu.binds (ps := ["_law_item"]) fun _ _ _ _ _ _ us hl => match us, hl with | [_], _ => rfl⟩
  have CSz : Called K mg "_law_size" ["_law_items"] fSz _ := ⟨PySem.W.mg_of X G aSz, kfSz, FSz.binds (ps := ["_law_items"]) fun _ _ _ _ _ _ us hl => match us, hl with | [_], _ => rfl⟩
  have CLF : Called K mg "_law_flat" ["_law_items", "_law_start", "_law_follow", "_law_held"] fLF _ := ⟨PySem.W.mg_of X G aLF, kfLF, FLF.binds (ps := ["_law_items", "_law_start", "_law_follow", "_law_held"]) fun _ _ _ _ _ _ us hl => match us, hl with | [_, _, _, _], _ => rfl⟩
  have CEv : Called K mg "_law_every" ["_law_items"] fEv _ := ⟨PySem.W.mg_of X G aEv, kfEv, FEv.binds (ps := ["_law_items"]) fun _ _ _ _ _ _ us hl => match us, hl with | [_], _ => rfl⟩
  have CLn : Called K mg "_law_names_in" ["_law_items", "_law_words"] fLn _ := ⟨PySem.W.mg_of X G aLn, kfLn, FLn.binds (ps := ["_law_items", "_law_words"]) fun _ _ _ _ _ _ us hl => match us, hl with | [_, _], _ => rfl⟩
  have CAtL : Called K mg "_law_at" ["_law_body", "_law_way", "_law_place"] fAtL _ := ⟨PySem.W.mg_of X G aAtL, kfAtL, FAtL.binds (ps := ["_law_body", "_law_way", "_law_place"]) fun _ _ _ _ _ _ us hl => match us, hl with | [_, _, _], _ => rfl⟩
  have CNP : Called K mg "_law_no_place" ["_law_body", "_law_most"] fNP _ := ⟨PySem.W.mg_of X G aNP, kfNP, FNP.binds (ps := ["_law_body", "_law_most"]) fun _ _ _ _ _ _ us hl => match us, hl with | [_, _], _ => rfl⟩
  have CEn : Called K mg "_law_ends" ["_law_rows"] fEn _ := ⟨PySem.W.mg_of X G aEn, kfEn, FEn.binds (ps := ["_law_rows"]) fun _ _ _ _ _ _ us hl => match us, hl with | [_], _ => rfl⟩
  have CRt : Called K mg "_law_right" ["_law_items"] fRt _ := ⟨PySem.W.mg_of X G aRt, kfRt, FRt.binds (ps := ["_law_items"]) fun _ _ _ _ _ _ us hl => match us, hl with | [_], _ => rfl⟩
  have bII := FII.binds (ps := ["self", "place"]) fun _ _ _ _ _ _ us hl => match us, hl with | [_, _], _ => rfl
  have bINm := FINm.binds (ps := ["self", "value"]) fun _ _ _ _ _ _ us hl => match us, hl with | [_, _], _ => rfl
  have bBI := FBI.binds (ps := ["self", "items"]) fun _ _ _ _ _ _ us hl => match us, hl with | [_, _], _ => rfl
  have bCo := FCo.binds (ps := ["self"]) fun _ _ _ _ _ _ us hl => match us, hl with | [_], _ => rfl
  have bSzB := FSzB.binds (ps := ["self"]) fun _ _ _ _ _ _ us hl => match us, hl with | [_], _ => rfl
  have bIm := FIm.binds (ps := ["self", "place"]) fun _ _ _ _ _ _ us hl => match us, hl with | [_, _], _ => rfl
  have bNx := FNx.binds (ps := ["self", "place"]) fun _ _ _ _ _ _ us hl => match us, hl with | [_, _], _ => rfl
  have bHd3 := FHd3.binds (ps := ["self", "place"]) fun _ _ _ _ _ _ us hl => match us, hl with | [_, _], _ => rfl
  have bFlg := FFlg.binds (ps := ["self"]) fun _ _ _ _ _ _ us hl => match us, hl with | [_], _ => rfl
  have bLck := FLck.binds (ps := ["self"]) fun _ _ _ _ _ _ us hl => match us, hl with | [_], _ => rfl
  have bWrk := FWrk.binds (ps := ["self"]) fun _ _ _ _ _ _ us hl => match us, hl with | [_], _ => rfl
  have bLnB := FLnB.binds (ps := ["self"]) fun _ _ _ _ _ _ us hl => match us, hl with | [_], _ => rfl
  have bEB := FEB.binds (ps := ["self", "other"]) fun _ _ _ _ _ _ us hl => match us, hl with | [_, _], _ => rfl
  have oI : OexG K cI fI := ⟨⟨_, _, _, _, PySem.F.excBase_Exception, PySem.F.store_Exception, _, _, _, _, _, _, _, _, _, _, _, _, _, _, _, xI, by rfl⟩, saI, gaI, ggI, eCI, tCI, kCI, hCI, iI, tI, haI, hn, ht, hmI⟩
  have oN : OexG K cN fN := ⟨⟨_, _, _, _, PySem.F.excBase_ValueError, PySem.F.store_ValueError, _, _, _, _, _, _, _, _, _, _, _, _, _, _, _, xN, by rfl⟩, saN, gaN, ggN, eCN, tCN, kCN, hCN, iN, tN, haN, hn, ht, hmN⟩
  have hP : ∀ H : Hp, SqT K H aPW (plain6.map V.str) := fun H => .inr ⟨_, _, _, lPW, rfl, rfl, by show 6 ≤ sizeLine; decide, .cons ⟨_, rfl⟩ (.cons ⟨_, rfl⟩ (.cons ⟨_, rfl⟩ (.cons ⟨_, rfl⟩ (.cons ⟨_, rfl⟩ (.cons ⟨_, rfl⟩ .nil)))))⟩
  have hI : ∀ H : Hp, SqT K H aIW (inner3.map V.str) := fun H => .inr ⟨_, _, _, lIW, rfl, rfl, by show 3 ≤ sizeLine; decide, .cons ⟨_, rfl⟩ (.cons ⟨_, rfl⟩ (.cons ⟨_, rfl⟩ .nil))⟩
  have hF : ∀ H : Hp, SqT K H aFW (flagW.map V.str) := fun H => .inr ⟨_, _, _, lFW, rfl, rfl, by show 3 ≤ sizeLine; decide, .cons ⟨_, rfl⟩ (.cons ⟨_, rfl⟩ (.cons ⟨_, rfl⟩ .nil))⟩
  have hL : ∀ H : Hp, SqT K H aLW (lockW.map V.str) := fun H => .inr ⟨_, _, _, lLW, rfl, rfl, by show 3 ≤ sizeLine; decide, .cons ⟨_, rfl⟩ (.cons ⟨_, rfl⟩ (.cons ⟨_, rfl⟩ .nil))⟩
  have hW : ∀ H : Hp, SqT K H aWW (workW.map V.str) := fun H => .inr ⟨_, _, _, lWW, rfl, rfl, by show 2 ≤ sizeLine; decide, .cons ⟨_, rfl⟩ (.cons ⟨_, rfl⟩ .nil)⟩
  have clB : Cls K cB := ⟨pgB, hdB, poB, sXB⟩
  have ccB : TCls K cB "Body" := ⟨⟨rdB, atB, ⟨_, _, obB, rfl, rfl, nameB_⟩, pgcB, hdB, hXB, hn, ht, hmB2, by show _ ≤ sizeLine; exact Nat.le_trans (Nat.le_of_ble_eq_true rfl : _ ≤ 8) (by decide)⟩, ⟨tkXB, fun o e => by
    rw [obB] at e
    cases e
    exact slotB⟩⟩
  have mB : Mk K cB fBI := ⟨mkB, inB, ifB, kXB⟩
  have pCode : PropOf K cB "code" pCo fCo := ⟨pcB, g_pCo, t_pCo, ⟨_, r_pCo⟩⟩
  have pSize : PropOf K cB "size" pSz fSzB := ⟨pzB, g_pSz, t_pSz, ⟨_, r_pSz⟩⟩
  have BC : BodyC K mg cB fBI pCo fCo := ⟨PySem.W.mg_of X G aXB, clB, vB_code, vB_listed, vB_ways, vB_held, mB, pCode⟩
  refine ⟨PySem.W.fnOf "law" "law" (defArgs sLaw) (defBody sLaw) (defScope sLaw) .none kVL dcL pmL anL cdL ctL, fun s v => .of_eq rfl, fun base _ _ => ?_⟩
  have T : Er P w K mg base "InvalidItem" "place" cI fI _ := ⟨PySem.W.mg_of X G aI, oI, nI_place, ok_II FII, bII⟩
  have TN : Er P w K mg base "InvalidNumber" "value" cN fN _ := ⟨PySem.W.mg_of X G aN, oN, nN_value, ok_INum FINm, bINm⟩
  have gName := ok_name (P := P) (w := w) (base := base) FName (z z_isinstance) (z z_str) (z z_len) (z z_all) (PySem.W.mg_of X G gML)
  have gTups := ok_tups (P := P) (w := w) (base := base) FTups (z z_isinstance) (z z_tuple) (z z_all)
  have gFork := ok_fork FFork gName CName gTups CTups (z z_len)
  have gBr := ok_br (P := P) (w := w) (mg := mg) (base := base) FBr
  have gBeh := ok_beh (P := P) (w := w) (mg := mg) (base := base) FBeh
  have gFlat := ok_flat FFlat CFlat gBr CBr
  have gShapes := ok_shapes FInn FShp FMis CInn CShp CMis CFlat CName CFork CBr gFlat gName gFork gBr (z z_isinstance) (z z_tuple) (z z_all) (z z_len) (z z_str) (PySem.W.mg_of X G gIW) hI (PySem.W.mg_of X G gMN) (PySem.W.mg_of X G gPW) hP (PySem.W.mg_of X G gMW) 16
  have gWr := ok_wr (P := P) (w := w) (mg := mg) (base := base) FWr
  have gWL := ok_wlk FWL CWL gBr CBr gBeh CBeh gWr CWr (z z_enumerate) 16 (by decide)
  have gHl := ok_hl FHl CHl gBr CBr gBeh CBeh 16
  have gEach := ok_each FEach T (z z_enumerate)
  have gCB := cbo_of (ok_cb FCB 16 (by decide) T gShapes.2.2 CMis (gFlat 16) CFlat gWL CWL gEach CEach (z z_isinstance) (z z_tuple) (z z_len) (PySem.W.mg_of X G gMI)) (ok_cbd FCB 16 T gShapes.2.2 CMis (gFlat 16) CFlat gWL CWL gEach CEach (z z_isinstance) (z z_tuple) (z z_len) (PySem.W.mg_of X G gMI))
  have gWays := ok_ways FWA FWO CWA CWO CFlat CBr gFlat gBr (z z_enumerate) (z z_len) 16
  have gBI := ok_BI FBI BC 16 gCB CCB (gFlat 16) CFlat gWays.2 CWA gHl CHl (z z_len)
  have gIB := ok_ibo FIB 16 T e_II gCB CCB
  have gIx := ok_ix (P := P) (w := w) (base := base) FIx (z z_isinstance) (z z_int) (z z_bool)
  have gIm := ok_item FIm clB vB_listed vB_listed gIx CIx TN (z z_len)
  have gNx := ok_nexts FNx clB vB_listed vB_ways gIx CIx TN (z z_len)
  have gHd := ok_held FHd3 clB vB_held vB_held gIx CIx TN (z z_len)
  have mIm : Meth K cB "item" fIm := ⟨b_Im, bf_Im, kfIm⟩
  have mNx : Meth K cB "nexts" fNx := ⟨b_Nx, bf_Nx, kfNx⟩
  have mHd : Meth K cB "held" fHd3 := ⟨b_Hd3, bf_Hd3, kfHd3⟩
  have mFlg : Meth K cB "flags" fFlg := ⟨b_Flg, bf_Flg, kfFlg⟩
  have mLck : Meth K cB "locks" fLck := ⟨b_Lck, bf_Lck, kfLck⟩
  have mWrk : Meth K cB "works" fWrk := ⟨b_Wrk, bf_Wrk, kfWrk⟩
  have gAtL := ok_atl FAtL clB TN e_NN gIm bIm mIm gNx bNx mNx gHd bHd3 mHd (z z_repr)
  have gNP := ok_nopl FNP gAtL CAtL (z z_range) (z z_repr)
  have gFw := ok_fw FFw 15 (gFlat 16) CFlat
  have gNi := ok_ni FNi 15 gFw CFw (z z_sorted)
  have gFlg := ok_flags FFlg clB vB_code 15 gNi CNi (PySem.W.mg_of X G gFW) hF
  have gLck := ok_locks FLck clB vB_code 15 gNi CNi (PySem.W.mg_of X G gLW) hL
  have gWrk := ok_works FWrk clB vB_code 15 gNi CNi (PySem.W.mg_of X G gWW) hW
  have gMay := ok_may FMay 15 gNi CNi
  have gSzB := ok_size (P := P) (w := w) (base := base) FSzB clB vB_listed (z z_len)
  have gLnB := ok_lenB (P := P) (w := w) (base := base) FLnB clB vB_listed (z z_len)
  have gCo := ok_Co (P := P) (w := w) (mg := mg) (base := base) FCo clB vB_code
  have gAl := ok_al (P := P) (w := w) (mg := mg) (base := base) FAl
  have gEB := ok_EB FEB 16 (by decide) clB vB_code ccB k_BB (PySem.W.mg_of X G aXB) gAl CAl (z z_isinstance)
  have gOrd := ok_order FOrd 16 (gFlat 16) CFlat
  have gTu := ok_tu (P := P) (w := w) (mg := mg) (base := base) FTu
  have gSz := ok_sz FSz CSz gTu CTu (z z_sum)
  have gLF := ok_lf3 FLF CLF gTu CTu CSz (fun n => (gSz n).1) (z z_enumerate) (z z_len) 16 (by decide)
  have gEv := ok_ev FEv CEv gTu CTu 16
  have gLn := ok_ln FLn 16 gEv CEv (z z_sorted) (z z_set)
  have gEn := ok_en (P := P) (w := w) (base := base) FEn (z z_range) (z z_len)
  have gRt := ok_rt FRt clB ccB (PySem.W.mg_of X G aXB) mB gBI bBI gLF CLF (gSz 16).1 CSz gIm bIm mIm gNx bNx mNx gHd bHd3 mHd gEn CEn gNP CNP gLn CLn gOrd COrd gFlg bFlg mFlg gLck bLck mLck gWrk bWrk mWrk gMay CMay gIB CIB gSzB bSzB pSize gCo bCo pCode ⟨b_LnB, bf_LnB⟩ gLnB bLnB ⟨b_EB, bf_EB⟩ gEB bEB k_TB n_BB n_BT (z z_range) (z z_repr) (z z_len)
  have gNum := ok_num (P := P) (w := w) (base := base) (k := 0) FNum (z z_max) (z z_range) (z z_len)
  have gPool := ok_pool FPool gNum CNum
  have gDr := ok_draw (P := P) (w := w) (base := base) FDr (z z_len) (z z_int)
  have gPk := ok_pick FPk gDr CDr (z z_len)
  have gPl := ok_pl FPl gPk CPk
  have gIr := ok_ir FIr gPk CPk gDr CDr
  have gMn := ok_drawn FMn FSo CMn CSo gPk CPk gDr CDr (gSz 16).1 (gSz 16).2 CSz gIr CIr gPl CPl (z z_list) (z z_range) (z z_tuple) 8 (by decide)
  exact ok_law FL clB ccB gPool CPool gDr CDr gPl CPl gMn CMn gRt CRt (PySem.W.mg_of X G aXB) mB gBI bBI ⟨b_EB, bf_EB⟩ gEB bEB n_BB (z z_enumerate) (z z_int) (z z_range)
theorem walk {l : PySem.W.OpenLaw} {q : Program} {loose : List Str} {XP : (Str → Option Value) → Heap → Prop} {YP : World → Heap → Prop} {d : DefRec} {K : Params → PySem.W.Frag} (hn : l.most = some 63) (hdf : d.params.defaults = [])
    (hY : ∀ (w : World) (h : Heap), YP w h → (K w.params).In h)
    (F : ∀ (w : World) (mg : Str → Option Value) (fa : Addr) (h : Heap), (K w.params).In h → h.Ns mainGlobals mg → mg d.name = some (.ref fa) →
      ∃ fd : FuncData, (∀ (s : Shared) (u : Value), BindsTo s fd ⟨[u], []⟩ [("_law_script", u)]) ∧ ∀ base : Heap, (K w.params).In base → base.Ns mainGlobals mg → FnOkG l.prog w (K w.params) mg base CX0 42 fa fd ["_law_script"] (spLaw (K w.params))) :
    PySem.W.WalkO q loose XP YP l.row.toRowW d [] (fun f vs => PySem.call f vs) :=
  L2.walk_ofG (n := 63) (k := 42) (x := "_law_script") (CX := fun _ => CX0) (sp := fun w => spLaw (K w.params)) hn (by decide) hdf ⟨rfl, by decide, by decide⟩ hY F (fun _ _ a ns hl _ hS => ⟨a, ns, rfl, hS, hl, fun _ => rfl⟩) fun _ _ _ _ _ z => z
end Tr

/-! K35 -/
open PySem PySem.W PyProof.Rows
set_option maxRecDepth 100000 in
set_option maxHeartbeats 0 in
theorem PySem.Challenge.cw_takendown_k02_whole_bodies_walked_holds : PySem.Challenge.rw_takendown_k02_whole_bodies_walked.Holds := by
  w_on; o_law; k_head; (case hw => w_witness2)
  k_fill
  refine Tr.walk (l := PySem.Challenge.rw_takendown_k02_whole_bodies_walked) rfl rfl (fun w h Y => PySem.W.kIn_of Y) ?F
  case F =>
    intro w mg fa h KX G hmg
    refine' Tr.all_mk KX G hmg ?aI ?xI ?saI ?gaI ?ggI ?nI_place ?iI ?tI ?kCI ?eCI ?tCI ?hCI ?haI ?hmI ?aN ?xN ?saN ?gaN ?ggN ?nN_value ?iN ?tN ?kCN ?eCN ?tCN ?hCN ?haN ?hmN ?hn ?ht ?aXB ?pgB ?hdB ?poB ?sXB ?vB_code ?vB_listed ?vB_ways ?vB_held ?mkB ?kXB ?atB ?obB ?nameB_ ?slotB ?pgcB ?rdB ?hXB ?hmB2 ?inB ?ifB ?b_Im ?bf_Im ?b_Nx ?bf_Nx ?b_Hd3 ?bf_Hd3 ?b_Flg ?bf_Flg ?b_Lck ?bf_Lck ?b_Wrk ?bf_Wrk ?b_LnB ?bf_LnB ?b_EB ?bf_EB ?pcB ?pzB ?g_pCo ?t_pCo ?r_pCo ?g_pSz ?t_pSz ?r_pSz ?gPW ?lPW ?gIW ?lIW ?gFW ?lFW ?gLW ?lLW ?gWW ?lWW ?gML ?gMI ?gMN ?gMW ?aName ?aTups ?aFork ?aBr ?aBeh ?aFlat ?aInn ?aShp ?aMis ?aWr ?aWL ?aHl ?aEach ?aCB ?aIB ?aWA ?aWO ?aAl ?aIx ?aNi ?aFw ?aMay ?aOrd ?aNum ?aPool ?aDr ?aPk ?aPl ?aIr ?aSo ?aMn ?aTu ?aSz ?aLF ?aEv ?aLn ?aAtL ?aNP ?aEn ?aRt ?aL ?lName ?ccName ?kfName ?lTups ?ccTups ?kfTups ?lFork ?ccFork ?kfFork ?lBr ?ccBr ?kfBr ?lBeh ?ccBeh ?kfBeh ?lFlat ?ccFlat ?kfFlat ?lInn ?ccInn ?kfInn ?lShp ?ccShp ?kfShp ?lMis ?ccMis ?kfMis ?lWr ?ccWr ?kfWr ?lWL ?ccWL ?kfWL ?lHl ?ccHl ?kfHl ?lEach ?ccEach ?kfEach ?lCB ?ccCB ?kfCB ?lIB ?ccIB ?kfIB ?lWA ?ccWA ?kfWA ?lWO ?ccWO ?kfWO ?lAl ?ccAl ?kfAl ?lIx ?ccIx ?kfIx ?lNi ?ccNi ?kfNi ?lFw ?ccFw ?kfFw ?lMay ?ccMay ?kfMay ?lOrd ?ccOrd ?kfOrd ?lNum ?ccNum ?kfNum ?lPool ?ccPool ?kfPool ?lDr ?ccDr ?kfDr ?lPk ?ccPk ?kfPk ?lPl ?ccPl ?kfPl ?lIr ?ccIr ?kfIr ?lSo ?ccSo ?kfSo ?lMn ?ccMn ?kfMn ?lTu ?ccTu ?kfTu ?lSz ?ccSz ?kfSz ?lLF ?ccLF ?kfLF ?lEv ?ccEv ?kfEv ?lLn ?ccLn ?kfLn ?lAtL ?ccAtL ?kfAtL ?lNP ?ccNP ?kfNP ?lEn ?ccEn ?kfEn ?lRt ?ccRt ?kfRt ?lL ?ccL ?kfL ?lII ?ccII ?kfII ?lINm ?ccINm ?kfINm ?lBI ?ccBI ?kfBI ?lCo ?ccCo ?kfCo ?lSzB ?ccSzB ?kfSzB ?lIm ?ccIm ?kfIm ?lNx ?ccNx ?kfNx ?lHd3 ?ccHd3 ?kfHd3 ?lFlg ?ccFlg ?kfFlg ?lLck ?ccLck ?kfLck ?lWrk ?ccWrk ?kfWrk ?lLnB ?ccLnB ?kfLnB ?lEB ?ccEB ?kfEB ?kb ?z_isinstance ?z_str ?z_len ?z_all ?z_tuple ?z_enumerate ?z_list ?z_max ?z_range ?z_int ?z_bool ?z_repr ?z_sum ?z_sorted ?z_set
    (case aI => k_is)
    (case xI => k_is)
    (case saI => k_is)
    (case gaI => k_is)
    (case ggI => k_is)
    (case nI_place => k_is)
    (case iI => k_is)
    (case tI => k_is)
    (case kCI => k_is)
    (case eCI => k_is)
    (case tCI => k_is)
    (case hCI => k_is)
    (case haI => k_is)
    (case hmI => k_is)
    (case aN => k_is)
    (case xN => k_is)
    (case saN => k_is)
    (case gaN => k_is)
    (case ggN => k_is)
    (case nN_value => k_is)
    (case iN => k_is)
    (case tN => k_is)
    (case kCN => k_is)
    (case eCN => k_is)
    (case tCN => k_is)
    (case hCN => k_is)
    (case haN => k_is)
    (case hmN => k_is)
    (case hn => k_is)
    (case ht => k_is)
    (case aXB => k_is)
    (case pgB => k_is)
    (case hdB => k_is)
    (case poB => k_is)
    (case sXB => k_is)
    (case vB_code => k_is)
    (case vB_listed => k_is)
    (case vB_ways => k_is)
    (case vB_held => k_is)
    (case mkB => k_is)
    (case kXB => k_is)
    (case atB => k_is)
    (case obB => k_is)
    (case nameB_ => kernel_rfl)
    (case slotB => exact rfl)
    (case pgcB => k_is)
    (case rdB => k_is)
    (case hXB => k_is)
    (case hmB2 => k_is)
    (case inB => k_is)
    (case ifB => k_is)
    (case b_Im => k_is)
    (case bf_Im => k_is)
    (case b_Nx => k_is)
    (case bf_Nx => k_is)
    (case b_Hd3 => k_is)
    (case bf_Hd3 => k_is)
    (case b_Flg => k_is)
    (case bf_Flg => k_is)
    (case b_Lck => k_is)
    (case bf_Lck => k_is)
    (case b_Wrk => k_is)
    (case bf_Wrk => k_is)
    (case b_LnB => k_is)
    (case bf_LnB => k_is)
    (case b_EB => k_is)
    (case bf_EB => k_is)
    (case pcB => k_is)
    (case pzB => k_is)
    (case g_pCo => k_is)
    (case t_pCo => k_is)
    (case r_pCo => k_is)
    (case g_pSz => k_is)
    (case t_pSz => k_is)
    (case r_pSz => k_is)
    (case gPW => k_is)
    (case lPW => k_is)
    (case gIW => k_is)
    (case lIW => k_is)
    (case gFW => k_is)
    (case lFW => k_is)
    (case gLW => k_is)
    (case lLW => k_is)
    (case gWW => k_is)
    (case lWW => k_is)
    (case gML => k_is)
    (case gMI => k_is)
    (case gMN => k_is)
    (case gMW => k_is)
    (case aName => k_is)
    (case aTups => k_is)
    (case aFork => k_is)
    (case aBr => k_is)
    (case aBeh => k_is)
    (case aFlat => k_is)
    (case aInn => k_is)
    (case aShp => k_is)
    (case aMis => k_is)
    (case aWr => k_is)
    (case aWL => k_is)
    (case aHl => k_is)
    (case aEach => k_is)
    (case aCB => k_is)
    (case aIB => k_is)
    (case aWA => k_is)
    (case aWO => k_is)
    (case aAl => k_is)
    (case aIx => k_is)
    (case aNi => k_is)
    (case aFw => k_is)
    (case aMay => k_is)
    (case aOrd => k_is)
    (case aNum => k_is)
    (case aPool => k_is)
    (case aDr => k_is)
    (case aPk => k_is)
    (case aPl => k_is)
    (case aIr => k_is)
    (case aSo => k_is)
    (case aMn => k_is)
    (case aTu => k_is)
    (case aSz => k_is)
    (case aLF => k_is)
    (case aEv => k_is)
    (case aLn => k_is)
    (case aAtL => k_is)
    (case aNP => k_is)
    (case aEn => k_is)
    (case aRt => k_is)
    (case aL => k_is)
    (case lName => k_is)
    (case ccName => k_is)
    (case kfName => k_is)
    (case lTups => k_is)
    (case ccTups => k_is)
    (case kfTups => k_is)
    (case lFork => k_is)
    (case ccFork => k_is)
    (case kfFork => k_is)
    (case lBr => k_is)
    (case ccBr => k_is)
    (case kfBr => k_is)
    (case lBeh => k_is)
    (case ccBeh => k_is)
    (case kfBeh => k_is)
    (case lFlat => k_is)
    (case ccFlat => k_is)
    (case kfFlat => k_is)
    (case lInn => k_is)
    (case ccInn => k_is)
    (case kfInn => k_is)
    (case lShp => k_is)
    (case ccShp => k_is)
    (case kfShp => k_is)
    (case lMis => k_is)
    (case ccMis => k_is)
    (case kfMis => k_is)
    (case lWr => k_is)
    (case ccWr => k_is)
    (case kfWr => k_is)
    (case lWL => k_is)
    (case ccWL => k_is)
    (case kfWL => k_is)
    (case lHl => k_is)
    (case ccHl => k_is)
    (case kfHl => k_is)
    (case lEach => k_is)
    (case ccEach => k_is)
    (case kfEach => k_is)
    (case lCB => k_is)
    (case ccCB => k_is)
    (case kfCB => k_is)
    (case lIB => k_is)
    (case ccIB => k_is)
    (case kfIB => k_is)
    (case lWA => k_is)
    (case ccWA => k_is)
    (case kfWA => k_is)
    (case lWO => k_is)
    (case ccWO => k_is)
    (case kfWO => k_is)
    (case lAl => k_is)
    (case ccAl => k_is)
    (case kfAl => k_is)
    (case lIx => k_is)
    (case ccIx => k_is)
    (case kfIx => k_is)
    (case lNi => k_is)
    (case ccNi => k_is)
    (case kfNi => k_is)
    (case lFw => k_is)
    (case ccFw => k_is)
    (case kfFw => k_is)
    (case lMay => k_is)
    (case ccMay => k_is)
    (case kfMay => k_is)
    (case lOrd => k_is)
    (case ccOrd => k_is)
    (case kfOrd => k_is)
    (case lNum => k_is)
    (case ccNum => k_is)
    (case kfNum => k_is)
    (case lPool => k_is)
    (case ccPool => k_is)
    (case kfPool => k_is)
    (case lDr => k_is)
    (case ccDr => k_is)
    (case kfDr => k_is)
    (case lPk => k_is)
    (case ccPk => k_is)
    (case kfPk => k_is)
    (case lPl => k_is)
    (case ccPl => k_is)
    (case kfPl => k_is)
    (case lIr => k_is)
    (case ccIr => k_is)
    (case kfIr => k_is)
    (case lSo => k_is)
    (case ccSo => k_is)
    (case kfSo => k_is)
    (case lMn => k_is)
    (case ccMn => k_is)
    (case kfMn => k_is)
    (case lTu => k_is)
    (case ccTu => k_is)
    (case kfTu => k_is)
    (case lSz => k_is)
    (case ccSz => k_is)
    (case kfSz => k_is)
    (case lLF => k_is)
    (case ccLF => k_is)
    (case kfLF => k_is)
    (case lEv => k_is)
    (case ccEv => k_is)
    (case kfEv => k_is)
    (case lLn => k_is)
    (case ccLn => k_is)
    (case kfLn => k_is)
    (case lAtL => k_is)
    (case ccAtL => k_is)
    (case kfAtL => k_is)
    (case lNP => k_is)
    (case ccNP => k_is)
    (case kfNP => k_is)
    (case lEn => k_is)
    (case ccEn => k_is)
    (case kfEn => k_is)
    (case lRt => k_is)
    (case ccRt => k_is)
    (case kfRt => k_is)
    (case lL => k_is)
    (case ccL => k_is)
    (case kfL => k_is)
    (case lII => k_is)
    (case ccII => k_is)
    (case kfII => k_is)
    (case lINm => k_is)
    (case ccINm => k_is)
    (case kfINm => k_is)
    (case lBI => k_is)
    (case ccBI => k_is)
    (case kfBI => k_is)
    (case lCo => k_is)
    (case ccCo => k_is)
    (case kfCo => k_is)
    (case lSzB => k_is)
    (case ccSzB => k_is)
    (case kfSzB => k_is)
    (case lIm => k_is)
    (case ccIm => k_is)
    (case kfIm => k_is)
    (case lNx => k_is)
    (case ccNx => k_is)
    (case kfNx => k_is)
    (case lHd3 => k_is)
    (case ccHd3 => k_is)
    (case kfHd3 => k_is)
    (case lFlg => k_is)
    (case ccFlg => k_is)
    (case kfFlg => k_is)
    (case lLck => k_is)
    (case ccLck => k_is)
    (case kfLck => k_is)
    (case lWrk => k_is)
    (case ccWrk => k_is)
    (case kfWrk => k_is)
    (case lLnB => k_is)
    (case ccLnB => k_is)
    (case kfLnB => k_is)
    (case lEB => k_is)
    (case ccEB => k_is)
    (case kfEB => k_is)
    (case kb => kernel_rfl)
    (case z_isinstance => k_is)
    (case z_str => k_is)
    (case z_len => k_is)
    (case z_all => k_is)
    (case z_tuple => k_is)
    (case z_enumerate => k_is)
    (case z_list => k_is)
    (case z_max => k_is)
    (case z_range => k_is)
    (case z_int => k_is)
    (case z_bool => k_is)
    (case z_repr => k_is)
    (case z_sum => k_is)
    (case z_sorted => k_is)
    (case z_set => k_is)
