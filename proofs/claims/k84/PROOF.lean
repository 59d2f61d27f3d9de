import PyProof.Rows.All
import Wide.All
import OpenK.AllK
import Wide.FinOn
import HandS.ForMost
import HandS.Exc
import HandS.ExcInit
import HandS.ExcField
import HandS.IsInst
import HandS.ExcIs
import KE.KExcInit
import KE.KExcIs
import HandS.Wide
import HandS.HeadHook2
import HandS.HeadEnd
import HandS.Head2
import HandS.ListEq
import HandS.Flow
import HandS.Codes
import HandS.Steps
import PySem.Challenge.RW_openruns_k84_errors_made_by_name
set_option Elab.async false
set_option maxRecDepth 100000
set_option maxHeartbeats 4000000
set_option linter.all false
/-! own errors over LookupError: made, stored into, read, asked for their class -/
namespace L2
open PySem PySem.Spec PyProof.Rows
abbrev leTail : List Value :=
  [.type "LookupError", .type "Exception", .type "BaseException", .type "object"]
/-- what the written part says of an own error class -/
structure ErrC (K : PySem.W.Frag) (C : Addr) : Prop where
  ini : PySem.W.excInitIn K C leTail "LookupError.__new__" = true
  ovr : PySem.W.excOver K C leTail = true
  sa : PySem.W.findIn K (.ref C) "__setattr__" = some (some (.builtin "object.__setattr__"))
  ga : PySem.W.findIn K (.ref C) "__getattribute__"
    = some (some (.builtin "BaseException.__getattribute__"))
  gg : PySem.W.findIn K (.ref C) "__getattr__" = some none
  exC : PySem.W.subIn K (.ref C) (.type "BaseException") = some true
  tyC : PySem.W.typeIn K (.ref C) = some (.type "type")
  kC : PySem.W.keepIn K (.ref C) = true
  hdC : PySem.W.hasDictIn K C = true
  ca : PySem.W.findIn K (.ref C) "__class__" = some (some (.builtin "object.__class__"))
  cg : PySem.W.specialIn K (.builtin "object.__class__") "__get__"
    = some (some (.builtin "getset_descriptor.__get__"))
  ct : PySem.W.takesIn K (.builtin "object.__class__") = some true
  cm : PySem.W.mroIn K C (.type "object") = some true
theorem taker_none {K : PySem.W.Frag} {C : Addr} {f : Str}
    (h : PySem.W.findIn K (.ref C) f = some none) : PySem.W.takerIn K C f = some none := NoAttr.taker h
section
variable {prog : Program} {w : World} {A : Around} {R : Result → Shared → Prop} {hp : Heap} {g : Array GenState}
  {d : Drawn} {t : Nat} {os : OsState} {K : PySem.W.Frag} {C x t0 : Addr} {name : Str} {tk : Tok} {v : Value}
/-- object.__setattr__ on a fresh error: its dict is made -/
theorem sa_new (T : ErrC K C) (X : K.In hp)
    (hx : hp.get? x = some { cls := .ref C, data := .fields #[.ref t0, .none, .none, .none, .bool false, .none] })
    (hno : PySem.W.findIn K (.ref C) name = some none)
    (hq : ∀ h' tk' dx, (∀ b o, b ≠ x → hp.get? b = some o → h'.get? b = some o) → hp.objs.size ≤ dx → dx ≠ x →
      h'.get? x = some { cls := .ref C, dict := some dx, data := .fields #[.ref t0, .none, .none, .none, .bool false, .none] } →
      h'.Ns1 dx (fun y => if y = name then some v else none) → R (.ok (.ret .none)) ⟨h', g, d, tk', os⟩) :
    codeAny (model prog w) A (.call (.builtin "object.__setattr__") ⟨[.ref x, .str name tk, v], []⟩) R
      ⟨hp, g, d, t, os⟩ := by
  have J : PySem.W.InstAt hp x { cls := .ref C, data := .fields #[.ref t0, .none, .none, .none, .bool false, .none] } C none :=
    ⟨hx, rfl, rfl, trivial⟩
  have hne : x ≠ hp.objs.size := Nat.ne_of_lt (Heap.lt_size hx)
  obtain ⟨cd, hcd, hdd⟩ := PySem.W.any_some T.hdC
  refine PySem.W.osa_openX PySem.F.store_LookupError X J T.ovr (taker_none hno) fun b => ?_
  have Lc : PySem.W.Looks (model prog w) hp (classData C) cd := PySem.W.looks_clsIn X hcd
  show wpAny _ _ (Builtin.ObjectAttr.storeInOwnDict (.ref x) (.ref C) (.str name tk) name v b) _ _ _
  unfold Builtin.ObjectAttr.storeInOwnDict Builtin.ObjectAttr.ownDictForStores
  repeat (first | with_reducible refine PySem.HandSPX.store_in_new ?_ ?_ | with_reducible refine wpAny_loadPart_at hx ?_ | with_reducible refine Lc.at ?_ | wp_step)
  · exact ⟨_, #[], _, (Heap.get?_update_ne _ _ _ _ hne.symm).trans (Heap.get?_push_at rfl rfl), rfl,
      fun e he => absurd he (by simp), fun _ => rfl⟩
  · intro h1 t1 ns same
    have hx1 := Heap.get?_push_of_some ({ cls := .type "dict", data := .dict #[] } : Obj) hx
    refine hq h1 t1 hp.objs.size (fun c o hc ho => ?_) (Nat.le_refl _) hne.symm ?_ ns
    · rw [same.2 c (Nat.ne_of_lt (Heap.lt_size ho)), Heap.get?_update_ne _ _ _ _ hc]
      exact Heap.get?_push_of_some _ ho
    · rw [same.2 x hne]
      exact Heap.get?_update_self _ hx1 rfl
/-- object.__setattr__ on an error that has its dict -/
theorem sa_old (T : ErrC K C) (X : K.In hp) {dx : Addr} {m0 : Str → Option Value} {nl : List Str}
    (hx : hp.get? x = some { cls := .ref C, dict := some dx, data := .fields #[.ref t0, .none, .none, .none, .bool false, .none] })
    (hns : hp.Ns1 dx m0) (hw : Within m0 nl) (hz : nl.length ≤ 1000)
    (hno : PySem.W.findIn K (.ref C) name = some none)
    (hq : ∀ h' tk', (∀ b o, b ≠ dx → hp.get? b = some o → h'.get? b = some o) →
      h'.Ns1 dx (fun y => if y = name then some v else m0 y) → R (.ok (.ret .none)) ⟨h', g, d, tk', os⟩) :
    codeAny (model prog w) A (.call (.builtin "object.__setattr__") ⟨[.ref x, .str name tk, v], []⟩) R
      ⟨hp, g, d, t, os⟩ := by
  obtain ⟨oD, _, _, hoD, _, _⟩ := hns.count hw
  have J : PySem.W.InstAt hp x { cls := .ref C, dict := some dx, data := .fields #[.ref t0, .none, .none, .none, .bool false, .none] } C (some oD) :=
    ⟨hx, rfl, rfl, hoD⟩
  obtain ⟨cd, hcd, hdd⟩ := PySem.W.any_some T.hdC
  refine PySem.W.osa_openX PySem.F.store_LookupError X J T.ovr (taker_none hno) fun b => ?_
  have Lc : PySem.W.Looks (model prog w) hp (classData C) cd := PySem.W.looks_clsIn X hcd
  show wpAny _ _ (Builtin.ObjectAttr.storeInOwnDict (.ref x) (.ref C) (.str name tk) name v b) _ _ _
  unfold Builtin.ObjectAttr.storeInOwnDict Builtin.ObjectAttr.ownDictForStores
  repeat (first | with_reducible refine PySem.OEX.store_in_old hns hw hz ?_ | with_reducible refine wpAny_loadPart_at hx ?_ | with_reducible refine Lc.at ?_ | wp_step)
  intro h1 t1 ns same
  exact hq h1 t1 (fun c o hc ho => (same.2 c hc).trans ho) ns
end
end L2

set_option Elab.async false
set_option maxRecDepth 100000
set_option maxHeartbeats 4000000
set_option linter.all false
namespace L2
open PySem PySem.Spec PySem.HandSPX
section
variable {M : Model} {A : Around} {E : Value → Shared → Prop} {h : Heap} {g : Array GenState} {d : Drawn} {t : Nat} {os : OsState}
variable {nm q : Str} {C N : Addr} {bs bm bmB : List Value} {hdct : Bool} {sn : List Str} {sub : List Value} {ab : Bool} {col : Option Bool} {dd : Option Addr} {k0 k1 k2 k3 k5 : Option Value} {B newId initId : String}
theorem check_new_kw (F : ExcBaseFacts B newId initId bmB) (hT : ∀ X : String, bm.contains (.type X) = bmB.contains (.type X)) {rest : List Value} {kw : List (Str × Value)} {Q : Unit → Shared → Prop}
    (hC : h.get? C = some (excClassObj nm q C N bs bm hdct sn sub ab col dd k0 k1 k2 k3 k5 newId)) (hq : Q () ⟨h, g, d, t, os⟩) :
    wpAny M A (checkBuiltinCall newId ⟨.ref C :: rest, kw⟩) Q E ⟨h, g, d, t, os⟩ := by
  have hB : (Value.ref C :: bm).contains (.type B) = true := by rw [List.contains_cons, hT, F.hasB, Bool.or_true]
  have hS := F.noStar
  simp only [checkBuiltinCall, F.newKind, F.newSplit, F.newRow]
  repeat (first | refine wpAny_loadPart_at hC ?_ | (refine wpAny_isSubtype_exc hC ?_; rw [hB]) | refine wpAny_staticBase_exc hC ?_ | refine wpAny_madeBy_exc hC ?_ | simp only [bne_self_eq_false, Bool.false_eq_true, if_false] | wp_step)
  exact hq
end
section
variable {prog : Program} {w : World} {A : Around} {E : Value → Shared → Prop} {R : Result → Shared → Prop} {h : Heap} {g : Array GenState} {d : Drawn} {t : Nat} {os : OsState}
variable {nm q : Str} {C N : Addr} {bs bm bmB : List Value} {hdct : Bool} {sn : List Str} {sub : List Value} {ab : Bool} {col : Option Bool} {dd : Option Addr} {k0 k1 k2 k3 k5 : Option Value} {B newId initId : String}
theorem new_kw (F : ExcBaseFacts B newId initId bmB) (hT : ∀ X : String, bm.contains (.type X) = bmB.contains (.type X)) {rest : List Value} {kw : List (Str × Value)}
    (hC : h.get? C = some (excClassObj nm q C N bs bm hdct sn sub ab col dd k0 k1 k2 k3 k5 newId)) (hr : rest.length ≤ sizeLine)
    (hq : R (.ok (.ret (.ref (h.objs.size + 1)))) ⟨(h.push (PySem.W.kdv_tup rest)).push (excO C h.objs.size), g, d, t, os⟩) :
    codeAny (model prog w) A (.builtin newId ⟨.ref C :: rest, kw⟩) R ⟨h, g, d, t, os⟩ := by
  have hE := F.ends
  have hB : (Value.ref C :: bm).contains (.type B) = true := by rw [List.contains_cons, hT, F.hasB, Bool.or_true]
  have hA : (Value.ref C :: bm).contains (.type "AttributeError") = false := by rw [List.contains_cons, hT, F.noAttr]; rfl
  have hN : (Value.ref C :: bm).contains (.type "NameError") = false := by rw [List.contains_cons, hT, F.noName]; rfl
  refine codeAny_builtinAt F.entry ?_
  unfold Builtin.«BaseException.__new__»
  refine wpAt_bind ?_
  show wpAt _ _ _ (stack >>= _) _ _ _
  refine wpAt_bind (wpAt_stack fun p below => wpAt_of_wpAny ?_)
  wp_walk
  refine wpAt_of_wpAny ?_
  rw [F.owner]
  repeat (first | with_reducible refine wpAny_madeHere_exc F.canon hC ?_ | with_reducible refine wpAny_loadPart_at hC ?_ | (with_reducible refine wpAny_isSubtype_exc hC ?_; first | rw [hB] | rw [hA] | rw [hN]) | wp_step)
  show R _ _
  rw [Heap.size_push]
  exact hq
theorem type_call_kw (F : ExcBaseFacts B newId initId bmB) (hT : ∀ X : String, bm.contains (.type X) = bmB.contains (.type X)) {rest : List Value} {kw : List (Str × Value)} {fI : Addr} {Q : Fin → Shared → Prop}
    (hC : h.get? C = some (excClassObj nm q C N bs bm hdct sn sub ab col dd k0 k1 k2 k3 k5 newId))
    (hi : W.Looks (model prog w) h (typeLookup (.ref C) "__init__") (some (.ref fI))) (hb : ∀ self, W.Looks (model prog w) h (bindSpecial (.ref fI) self) (.ref fI, [self])) (hr : rest.length ≤ sizeLine)
    (hq : codeAny (model prog w) A (.call (.ref fI) ⟨.ref (h.objs.size + 1) :: rest, kw⟩)
      (fun r s' => match r with | .ok (.ret v) => v = .none ∧ Q (.done (.ret (.ref (h.objs.size + 1)))) s' | .ok _ => False | .error e => E e s')
      ⟨(h.push (PySem.W.kdv_tup rest)).push (excO C h.objs.size), g, d, t, os⟩) :
    wpAny (model prog w) A (Builtin.«type.__call__» ⟨.ref C :: rest, kw⟩) Q E ⟨h, g, d, t, os⟩ := by
  repeat (first | with_reducible refine wpAny_loadPart_at hC ?_ | with_reducible refine wpAny_madeBy_exc hC ?_ | wp_step)
  refine codeAny_call_builtin_code (Code.quiet_builtin _ F.quiet) (check_new_kw F hT hC ?_)
  refine new_kw F hT hC hr ?_
  show wpAny _ _ _ _ _ _
  have kp : ∀ b o, h.get? b = some o → ((h.push (PySem.W.kdv_tup rest)).push (excO C h.objs.size)).get? b = some o := fun b o e => Heap.get?_push_of_some _ (Heap.get?_push_of_some _ e)
  have hC1 := kp _ _ hC
  have hx : ((h.push (PySem.W.kdv_tup rest)).push (excO C h.objs.size)).get? (h.objs.size + 1) = some (excO C h.objs.size) := by heap_get
  have hcc : (Value.ref C :: bm).contains (.ref C) = true := by simp
  have i1 := hi.keeps kp
  have b1 := (hb (.ref (h.objs.size + 1))).keeps kp
  unfold isInstance
  repeat (first | with_reducible refine wpAny_loadPart_at hx ?_ | (with_reducible refine wpAny_isSubtype_exc hC1 ?_; rw [hcc]) | wp_step)
  show wpAny _ _ (typeLookup (.ref C) _) _ _ _
  refine i1.at ?_
  refine wpAny_holding (wpAny_bind (b1.at ?_))
  refine wpAny_bind (wpAny_call (codeAny_mono hq fun r s' z => ?_))
  rcases r with e | (v | _ | _ | _) <;> first | exact z | exact z.elim | skip
  obtain ⟨rfl, z⟩ := z
  first
    | exact wpAny_pure (wpAny_pure z)
    | (wp_walk; exact z)
theorem call_kw (F : ExcBaseFacts B newId initId bmB) (hT : ∀ X : String, bm.contains (.type X) = bmB.contains (.type X)) {rest : List Value} {kw : List (Str × Value)} {fI : Addr}
    (hC : h.get? C = some (excClassObj nm q C N bs bm hdct sn sub ab col dd k0 k1 k2 k3 k5 newId))
    (hi : W.Looks (model prog w) h (typeLookup (.ref C) "__init__") (some (.ref fI))) (hb : ∀ self, W.Looks (model prog w) h (bindSpecial (.ref fI) self) (.ref fI, [self])) (hr : rest.length ≤ sizeLine)
    (hq : codeAny (model prog w) (A.under (.builtin "type.__call__" ⟨.ref C :: rest, kw⟩)) (.call (.ref fI) ⟨.ref (h.objs.size + 1) :: rest, kw⟩) (W.InitBack (h.objs.size + 1) R)
      ⟨(h.push (PySem.W.kdv_tup rest)).push (excO C h.objs.size), g, d, t, os⟩) :
    codeAny (model prog w) A (.call (.ref C) ⟨rest, kw⟩) R ⟨h, g, d, t, os⟩ := by
  have f1 := tc_lookup
  have f2 := tc_bind (.ref C)
  have hTy : (⟨h, g, d, t, os⟩ : Shared).TypeIs (.ref C) "type" := ⟨_, hC, rfl⟩
  refine codeAny_of_tree ?_
  show wpAny _ _ (callAny (.ref C) _) _ _ _
  repeat (any_goals (first | assumption | with_reducible refine wpAny_loadPart_at hC ?_ | wp_step))
  refine ⟨rfl, ?_⟩
  refine codeAny_call_builtin_at (Code.quiet_builtin _ (by decide +kernel)) entry_typeCall (wpAny_check_type_call_sub hC (type_call_kw F hT hC hi hb hr ?_))
  refine codeAny_mono hq fun r s' z => ?_
  rcases r with e | (v | _ | _ | _) <;> exact z
end
end L2

set_option Elab.async false
set_option maxRecDepth 100000
set_option maxHeartbeats 4000000
set_option linter.all false
namespace L2
open PySem PySem.Spec PyProof.Rows
section
variable {X : Cx} {pins : List (Addr × Obj)} {σ : St} {H : Hp} {s : Shared} {a C dx : Addr} {f : Str} {y : V} {u : Value}
  {fs : List (Str × V)} {Q : Unit → Shared → Prop} {E : Value → Shared → Prop} {A : Around}
/-- the error at a gets its dict at dx, both tracked -/
theorem swap_un {hp h' : Heap} {ex : List Addr} (fr : List Addr) (hok : HOk X.prog X.w H hp) (e : H a = some (exo a C none)) (dn : hp.objs.size ≤ dx)
    (kp : ∀ b o, b ≠ a → hp.get? b = some o → h'.get? b = some o) (ha : ∃ o, h'.get? a = some o) :
    Un fr ex H (upd (upd H dx (exd dx fs)) a (exo a C (some dx))) hp h' := by
  have nd : H dx = none := hok.fresh dn
  have old : ∀ {b : Addr} {o : Obj}, hp.get? b = some o → b ≠ dx := fun z => Nat.ne_of_lt (Nat.lt_of_lt_of_le (Heap.lt_size z) dn)
  have na : ∀ {b : Addr}, H b = none → b ≠ a := fun n z => by rw [z, e] at n; cases n
  have kind : ∀ {b : Addr} {o : HO}, H b = some o → exo a C none ≠ o → upd (upd H dx (exd dx fs)) a (exo a C (some dx)) b = some o := fun {b o} z d => by
    rw [upd_ne (at_ne e z d), upd_ne (ne_of_none z nd)]
    exact z
  exact {
    keep := fun b o z n _ _ => kp b o (na n) z
    slot := fun b o z n _ _ => ⟨o.slots, kp b o (na n) z⟩
    free := fun b o z n _ => by
      rw [upd_ne (na n), upd_ne (old z)]
      exact n
    there := fun b o z _ => by
      rcases Decidable.em (b = a) with q | q
      · rw [q]; exact ha
      · exact ⟨o, kp b o q z⟩
    tups := fun b xs z => kind z exo_tup
    frzs := fun b o v z => kind z exo_frz
    tbls := fun b ps z => ⟨#[], by rw [kind z exo_tbl]; simp⟩ }
theorem swap_ok {hp h' : Heap} {t1 : Addr} {mA : Str → Option Value} (hok : HOk X.prog X.w H hp) (e : H a = some (exo a C none)) (dn : hp.objs.size ≤ dx)
    (kp : ∀ b o, b ≠ a → hp.get? b = some o → h'.get? b = some o)
    (ha : h'.get? a = some { cls := .ref C, dict := some dx, data := .fields #[.ref t1, .none, .none, .none, .bool false, .none] })
    (hn : h'.Ns1 dx mA) (r : ∀ g, RelO (fs.lookup g) (mA g)) : HOk X.prog X.w (upd (upd H dx (exd dx fs)) a (exo a C (some dx))) h' := by
  have nd : H dx = none := hok.fresh dn
  intro b o q
  rcases Decidable.em (b = a) with z | z
  · subst z
    rw [upd_same] at q
    cases q
    exact exo_ok ha
  · rw [upd_ne z] at q
    rcases Decidable.em (b = dx) with z2 | z2
    · subst z2
      rw [upd_same] at q
      cases q
      exact exd_ok hn r
    · rw [upd_ne z2] at q
      have far : ∀ {c : Addr} {u : HO}, H c = some u → exo a C none ≠ u → upd (upd H dx (exd dx fs)) a (exo a C (some dx)) c = some u := fun {c u} k d => by
        rw [upd_ne (at_ne e k d), upd_ne (ne_of_none k nd)]
        exact k
      exact (hok b o q).stay (fun c v hc k => kp c v (by rcases hc with hc | hc; exact hc ▸ z; exact at_ne e hc exo_own) k)
        (fun c hc => far hc exo_own) (fun c xs hc => far hc exo_tup)
/-- self.f = y, the first store -/
theorem put_new (T : ErrC X.K C) (I : Inv X pins σ H s) (e : H a = some (exo a C none)) (hno : PySem.W.findIn X.K (.ref C) f = some none) (ry : RelV y u)
    (h : ∀ dx s', H dx = none → dx ≠ a → Inv X pins σ (upd (upd H dx (exd dx [(f, y)])) a (exo a C (some dx))) s' → Q () s') :
    wpAny (model X.prog X.w) A (setAttr (.ref a) f u) Q E s := by
  obtain ⟨t1, ho⟩ := exo_at I.hok e
  obtain ⟨hp, g, d, t, os⟩ := s
  refine PySem.W.set_plain I.kIn (od := none) ⟨ho, rfl, rfl, trivial⟩ T.sa ?_
  refine sa_new T I.kIn ho hno fun h' tk' dx k dn dne hx hn => ?_
  exact h dx _ (I.hok.fresh dn) dne (I.un (t' := tk') (swap_un _ I.hok e dn k ⟨_, hx⟩) (swap_ok I.hok e dn k hx hn (relO_put (fs := []) ry fun _ => True.intro)))
/-- self.f = y, a further store -/
theorem put_old (T : ErrC X.K C) (I : Inv X pins σ H s) (e : H a = some (exo a C (some dx))) (ed : H dx = some (exd dx fs)) (hl : fs.length ≤ 900)
    (hno : PySem.W.findIn X.K (.ref C) f = some none) (ry : RelV y u)
    (h : ∀ s', Inv X pins σ (upd H dx (exd dx ((f, y) :: fs))) s' → Q () s') : wpAny (model X.prog X.w) A (setAttr (.ref a) f u) Q E s := by
  obtain ⟨t1, ho⟩ := exo_at I.hok e
  obtain ⟨mA, hns, rel⟩ := exd_at I.hok ed
  have hw := within_of rel
  obtain ⟨hp, g, d, t, os⟩ := s
  obtain ⟨oD, _, _, hoD, _, _⟩ := hns.count hw
  refine PySem.W.set_plain I.kIn (od := some oD) ⟨ho, rfl, rfl, hoD⟩ T.sa ?_
  refine sa_old T I.kIn ho hns hw (by rw [List.length_map]; omega) hno fun h' tk' k hn => ?_
  have there : ∃ o, h'.get? dx = some o := let ⟨o, _, _, z, _⟩ := hn; ⟨o, z⟩
  exact h _ (I.write (t' := tk') (x := dx) (e := dx) (by rw [ed]; exact True.intro) (.inl rfl) k there (exd_ok hn (relO_put ry rel)))
end
/-- self.f = e in an own error's __init__ -/
def tPut (K : PySem.W.Frag) (f : Str) (to te : TE) : TS := fun D σ H => te σ H fun y H1 => to σ H1 fun x H2 => ∃ a C : Addr, x = .ref a ∧ ErrC K C ∧
  PySem.W.findIn K (.ref C) f = some none ∧
  ((H2 a = some (exo a C none) ∧ ∀ dx, H2 dx = none → dx ≠ a → D.nx σ (upd (upd H2 dx (exd dx [(f, y)])) a (exo a C (some dx)))) ∨
    ∃ (dx : Addr) (fs : List (Str × V)), H2 a = some (exo a C (some dx)) ∧ H2 dx = some (exd dx fs) ∧ fs.length ≤ 900 ∧ D.nx σ (upd H2 dx (exd dx ((f, y) :: fs))))
theorem ps_put {X : Cx} {o e : Expr} {to te : TE} {f : Str} {p' pos : Pos} (ho : PE X o to) (he : PE X e te)
    (hs : swapsWith e (some (.Attribute o f p')) pos.line X.env = pure false := by rfl) : PS X (.Assign [.Attribute o f p'] e pos) (tPut X.K f to te) := by
  refine ⟨fun pins s σ H D I h => ?_⟩
  refine plainObj_wpAny_Assign_Attribute (thn (he.run pins s σ H _ I h) fun v s1 ⟨y, H1, I1, r1, q1⟩ => thn (ho.run pins s1 σ H1 _ I1 q1) fun u s2 ⟨x, H2, I2, r2, q2⟩ => ?_) hs
  obtain ⟨a, C, ex, T, hno, q⟩ := q2
  subst ex
  obtain rfl : u = Value.ref a := r2
  rcases q with ⟨ea, q⟩ | ⟨dx, fs, ea, ed, hl, q⟩
  · exact put_new T I2 ea hno r1 fun dx s' n ne J => ⟨σ, _, J, q dx n ne⟩
  · exact put_old T I2 ea ed hl hno r1 fun s' J => ⟨σ, _, J, q⟩
/-- what __init__ of an own error promises: its values stand in its dict -/
def spErr (C : Addr) (fns : List Str) : Sp := fun vs H Q _ => ∃ (a : Addr) (ws : List V), vs = .ref a :: ws ∧ ws.length = fns.length ∧ H a = some (exo a C none) ∧
  ∀ dx H', H dx = none → dx ≠ a → H' dx = some (exd dx (fns.zip ws).reverse) → H' a = some (exo a C (some dx)) → (∀ b, b ≠ a → b ≠ dx → H' b = H b) → Q .non H'
/-- C(e, ..), C an own error class: a new error and its dict -/
def tNew (C : Addr) (fns : List Str) (ta : TA) : TE := fun σ H Q => ta σ H fun vs H1 => vs.length = fns.length ∧
  ∀ a dx H', H1 a = none → H1 dx = none → dx ≠ a → H' dx = some (exd dx (fns.zip vs).reverse) → H' a = some (exo a C (some dx)) → (∀ b, b ≠ a → b ≠ dx → H' b = H1 b) → Q (.ref a) H'
section
variable {X : Cx} {CX : CXT} {k : Nat} {fI C : Addr} {fd : FuncData} {fns ps : List Str} {x : Str} {p pos : Pos} {e : Expr} {es : List Expr} {ta : TA}
/-- an own error class whose __init__ keeps that promise -/
structure MkE (X : Cx) (CX : CXT) (k : Nat) (C fI : Addr) (fd : FuncData) (ps fns : List Str) : Prop where
  T : ErrC X.K C
  iC : PySem.W.findIn X.K (.ref C) "__init__" = some (some (.ref fI))
  tI : PySem.W.typeIn X.K (.ref fI) = some (.type "function")
  F : FnOk X.prog X.w X.K X.mg X.base CX k fI fd ps (spErr C fns)
  few : fns.length ≤ 1000
theorem run_new {pins : List (Addr × Obj)} {σ : St} {H : Hp} {s : Shared} {Q : VK} {us all : List Value} {vs : List V} {kw : List (Str × Value)} (M : MkE X CX k C fI fd ps fns) (hr : Room (k + 1) X.A) (hx : Passes CX X E0) (I : Inv X pins σ H s)
    (hb : ∀ (s : Shared) (e : Value), X.K.In s.heap → BindsTo s fd ⟨e :: us, kw⟩ (ps.zip (e :: all))) (hus : us.length ≤ sizeLine)
    (r : Vals vs all) (hl : vs.length = fns.length)
    (h : ∀ a dx H', H a = none → H dx = none → dx ≠ a → H' dx = some (exd dx (fns.zip vs).reverse) → H' a = some (exo a C (some dx)) → (∀ b, b ≠ a → b ≠ dx → H' b = H b) → Q (.ref a) H') :
    wpAny (model X.prog X.w) X.A (call (.ref C) us kw) (EP X pins σ Q) X.xe s := by
  obtain ⟨nm, N, qn, bs, bm, hdct, sn, sub, ab, col, dd, k0, k1, k2, k3, k5, hC, hT⟩ := PySem.W.excInit_of I.kIn M.T.ini
  obtain ⟨hp, g, dr, tk, os⟩ := s
  have hsz : hp.objs.size ≤ hp.objs.size + 1 := Nat.le_succ _
  have hn : H (hp.objs.size + 1) = none := I.hok.fresh hsz
  have kk : ∀ b o, hp.get? b = some o → ((hp.push (PySem.W.kdv_tup us)).push (PySem.HandSPX.excO C hp.objs.size)).get? b = some o := fun b o z => Heap.get?_push_of_some _ (Heap.get?_push_of_some _ z)
  have hget : ((hp.push (PySem.W.kdv_tup us)).push (PySem.HandSPX.excO C hp.objs.size)).get? (hp.objs.size + 1) = some (PySem.HandSPX.excO C hp.objs.size) := by heap_get
  have J : Inv X pins σ (upd H (hp.objs.size + 1) (exo (hp.objs.size + 1) C none)) ⟨(hp.push (PySem.W.kdv_tup us)).push (PySem.HandSPX.excO C hp.objs.size), g, dr, tk, os⟩ :=
    I.laid (t' := tk) kk hsz (exo_ok hget)
  have sp : spErr C fns (.ref (hp.objs.size + 1) :: vs) (upd H (hp.objs.size + 1) (exo (hp.objs.size + 1) C none)) (fun v H2 => v = .non ∧ Q (.ref (hp.objs.size + 1)) H2) E0 := by
    refine ⟨_, vs, rfl, hl, upd_same, fun dx H' nd ne e1 e2 e3 => ⟨rfl, h _ dx H' hn ?_ ne e1 e2 fun b h1 h2 => ?_⟩⟩
    · rw [upd_ne ne] at nd
      exact nd
    · rw [e3 b h1 h2, upd_ne h1]
  have r2 : Vals (V.ref (hp.objs.size + 1) :: vs) (Value.ref (hp.objs.size + 1) :: all) := .cons rfl r
  refine wpAny_call (call_kw PySem.F.excBase_LookupError hT hC (PySem.W.looks_findIn I.kIn M.iC) (fun self => PySem.W.bind_fn I.kIn self M.tI) hus
    (codeAny_mono (M.F.run _ X.stack _ _ ⟨Value.ref (hp.objs.size + 1) :: us, kw⟩ (Value.ref (hp.objs.size + 1) :: all) _ _ E0 (hr.make C us kw) (J.env0.make C us kw) (hb _ _ J.kIn) r2 sp) fun r s' hq' => ?_))
  cases r with
  | error er => exact hx pins σ _ _ er s' J hq'
  | ok fl =>
    cases fl with
    | ret u =>
      obtain ⟨v, H', I3, rv, ev, q3⟩ := J.after hq'
      subst ev
      exact ⟨rv, ⟨V.ref (hp.objs.size + 1), H', I3, rfl, q3⟩⟩
    | next => exact False.elim hq'
    | brk => exact False.elim hq'
    | cont => exact False.elim hq'
theorem pe_new (M : MkE X CX k C fI fd ps fns) (hr : Room (k + 1) X.A) (hg : Gl X x) (hm : X.mg x = some (.ref C)) (hb : Binds X.K fd ps []) (hp : ps.length = fns.length + 1) (hx : Passes CX X E0)
    (ha : PA X (e :: es) ta) (hdb : (x == ("__debug__" : Str)) = false := by decide) (he : starEach (e :: es) X.env = (false, eval e X.env) :: starEach es X.env := by rfl)
    (hpl : (backTo pos (starEach es X.env)).any (·.1) = false := by rfl) : PE X (.Call (.Name x p) (e :: es) [] pos) (tNew C fns ta) := by
  refine ⟨fun pins s σ H Q I h => ?_⟩
  refine wpAny_Call_Name_kw (ld_glob I hg hm ?_ hdb)
  refine PySem.W.callWith_K (h₀ := X.base) I.ok.mod.kin M.T.kC (thn (ha.run pos pins s σ H _ I h) fun us s1 ⟨vs, H1, I1, r, hl, q⟩ => ⟨I1.kIn, ?_⟩) he hpl
  have lu : us.length = fns.length := r.length.symm.trans hl
  refine run_new (all := us) M hr hx I1 (fun s e0 X0 => ?_) (by show us.length ≤ sizeLine; rw [lu, sizeLine_eq]; have := M.few; omega) r hl q
  have b := hb s (e0 :: us) X0 (by rw [List.append_nil, List.length_cons, lu, hp])
  rw [List.append_nil] at b
  exact b
/-- C(k = e, ..): g puts the keywords' values in the order of the parameters -/
theorem pe_newK {kws : List Keyword} {ks : List Str} {tk : TA} {g : {α : Type} → List α → List α} (M : MkE X CX k C fI fd ps fns) (hr : Room (k + 1) X.A) (hg : Gl X x) (hm : X.mg x = some (.ref C))
    (hb : ∀ (s : Shared) (e : Value) (ws : List Value), X.K.In s.heap → ws.length = fns.length → BindsTo s fd ⟨[e], ks.zip ws⟩ (ps.zip (e :: g ws)))
    (hrel : ∀ {zs : List V} {ws : List Value}, Vals zs ws → zs.length = fns.length → Vals (g zs) (g ws)) (hlen : ∀ zs : List V, zs.length = fns.length → (g zs).length = fns.length) (hx : Passes CX X E0)
    (hkw : PK X kws tk) (hall : (backToKw pos (keywordEach kws X.env)).all (·.1.isSome) = true := by rfl) (hks : (backToKw pos (keywordEach kws X.env)).filterMap (·.1) = ks := by rfl)
    (hdb : (x == ("__debug__" : Str)) = false := by decide)
    (hpl : ((backTo pos (starEach [] X.env)).any (·.1) || (backToKw pos (keywordEach kws X.env)).any (·.1.isNone)) = false := by rfl) :
    PE X (.Call (.Name x p) [] kws pos) (tNew C fns fun σ H Q => tk σ H fun zs H1 => zs.length = fns.length ∧ Q (g zs) H1) := by
  refine ⟨fun pins s σ H Q I h => ?_⟩
  refine wpAny_Call_Name_kw (ld_glob I hg hm ?_ hdb)
  refine PySem.W.callWith_KW0 (h₀ := X.base) I.ok.mod.kin M.T.kC hall ?_ hpl
  refine thn (hkw.run pos pins s σ H _ I h) fun ws s2 ⟨zs, H2, I2, rz, lz, l2, q2⟩ => ⟨I2.kIn, ?_⟩
  rw [hks]
  exact run_new (us := []) (all := g ws) M hr hx I2 (fun s e0 X0 => hb s e0 ws X0 (rz.length.symm.trans lz)) (by show 0 ≤ sizeLine; exact Nat.zero_le _) (hrel rz lz) l2 q2
/-- e.f, e an own error -/
def tEf (C : Addr) (f : Str) (te : TE) : TE := fun σ H Q => te σ H fun x H1 => ∃ (a dx : Addr) (fs : List (Str × V)) (v : V), x = .ref a ∧ H1 a = some (exo a C (some dx)) ∧ H1 dx = some (exd dx fs) ∧ fs.lookup f = some v ∧ Q v H1
theorem pe_ef {te : TE} {f : Str} (T : ErrC X.K C) (hno : PySem.W.findIn X.K (.ref C) f = some none) (he : PE X e te)
    (hb : attributeBase e f X.env (eval e X.env) = eval e X.env := by rfl) : PE X (.Attribute e f pos) (tEf C f te) := by
  refine ⟨fun pins s σ H Q I h => ?_⟩
  refine attr_of hb (thn (he.run pins s σ H _ I h) fun u s1 hh => ?_)
  obtain ⟨x, H1, I1, rx, a, dx, fs, v, ex, ea, ed, l, q⟩ := hh
  subst ex
  obtain rfl : u = Value.ref a := rx
  obtain ⟨t1, ho⟩ := exo_at I1.hok ea
  obtain ⟨mA, hns, hr⟩ := exd_at I1.hok ed
  obtain ⟨od, hod, hl⟩ := lookIn_ns hns
  obtain ⟨u, hu, ru⟩ := RelO.some_of (v := v) (o := mA f) (by rw [← l]; exact hr f)
  have J : PySem.W.InstAt s1.heap a _ C (some od) := ⟨ho, rfl, rfl, hod⟩
  exact HandSPX.exc_get I1.kIn J T.ga T.gg T.exC (PySem.W.findObj_own T.hdC hno rfl (by rw [hl, hu])) (handed_of ru) ⟨v, H1, I1.tok _, ru, q⟩
end
end L2

set_option Elab.async false
set_option maxRecDepth 100000
set_option maxHeartbeats 4000000
set_option linter.all false
namespace L2
open PySem PySem.Spec PyProof.Rows
/-! ### isinstance of an own error that has its dict -/
def rIsErr (K : PySem.W.Frag) (C : Addr) : List V → Hp → VK → Prop := fun xs H Q => ∃ (a dx : Addr) (fs : List (Str × V)) (c : V) (u : Value) (b : Bool),
  xs = [.ref a, c] ∧ H a = some (exo a C (some dx)) ∧ H dx = some (exd dx fs) ∧ ClsV c u ∧ PySem.W.kitOne K (.ref C) u = some b ∧ Q (.bl b) H
theorem call_isErr {X : Cx} {C : Addr} (T : ErrC X.K C) : CallR X (.builtin "isinstance") (rIsErr X.K C) := by
  intro pins s σ H xs us Q I r h
  obtain ⟨a, dx, fs, c, u, b, rfl, ea, ed, k, e, q⟩ := h
  obtain ⟨u1, u2, rfl, r1, r2⟩ := vals2 r
  cases (show u1 = Value.ref a from r1)
  have e2 := k.eq r2
  subst e2
  obtain ⟨t1, ho⟩ := exo_at I.hok ea
  obtain ⟨mA, hns, hr⟩ := exd_at I.hok ed
  obtain ⟨od, hod, hl⟩ := lookIn_ns hns
  have J : PySem.W.InstAt s.heap a _ C (some od) := ⟨ho, rfl, rfl, hod⟩
  obtain ⟨cd, hcd, _⟩ := PySem.W.any_some T.hdC
  exact PySem.W.kia_one (PySem.W.kitx_exc (by rw [hcd]; rfl) T.ga T.gg T.exC T.ca T.cg T.ct T.cm) I.kIn J e (fun z => nomatch z) fun tk => ⟨.bl b, H, I.tok tk, rfl, q⟩
/-! ### a power of a greater number -/
def CPowW (i j : Int) : Prop := i.natAbs.log2 < 1000 ∧ 0 ≤ j ∧ j ≤ 1000
theorem op_powW {X : Cx} : OpR X (binaryOp .Pow) (rI CPowW fun i j => .int (i ^ j.toNat)) := opI fun i j t u s Q E hc q => by
  obtain ⟨h1, h2, h3⟩ := hc
  have z : bitsLine = 134217728 := by decide
  have b : Builtin.Int.intBits i ≤ i.natAbs.log2 + 1 := by
    unfold Builtin.Int.intBits
    split <;> omega
  refine pow_int h2 ?_ q
  have c : (Builtin.Int.intBits i : Int) ≤ 1000 := by omega
  have m := Int.mul_le_mul c h3 h2 (by decide : (0 : Int) ≤ 1000)
  exact Int.le_trans m (by decide)
end L2
namespace He
open PySem PySem.Spec PyProof.Rows L2
/-! ### own errors by the head -/
/-- what the head tells of an own error class -/
def errB (K : PySem.W.Frag) (C : Addr) : Bool :=
  PySem.W.excInitIn K C leTail "LookupError.__new__" && (PySem.W.excOver K C leTail &&
  (eqO (PySem.W.findIn K (.ref C) "__setattr__") (some (some (.builtin "object.__setattr__"))) &&
  (eqO (PySem.W.findIn K (.ref C) "__getattribute__") (some (some (.builtin "BaseException.__getattribute__"))) &&
  (eqO (PySem.W.findIn K (.ref C) "__getattr__") (some none) &&
  (decide (PySem.W.subIn K (.ref C) (.type "BaseException") = some true) && (decide (PySem.W.typeIn K (.ref C) = some (.type "type")) &&
  (PySem.W.keepIn K (.ref C) && (PySem.W.hasDictIn K C &&
  (eqO (PySem.W.findIn K (.ref C) "__class__") (some (some (.builtin "object.__class__"))) &&
  (eqO (PySem.W.specialIn K (.builtin "object.__class__") "__get__") (some (some (.builtin "getset_descriptor.__get__"))) &&
  (decide (PySem.W.takesIn K (.builtin "object.__class__") = some true) && decide (PySem.W.mroIn K C (.type "object") = some true))))))))))))
theorem errB_ok {K : PySem.W.Frag} {C : Addr} (h : errB K C = true) : ErrC K C := by
  obtain ⟨h1, h⟩ := ba h
  obtain ⟨h2, h⟩ := ba h
  obtain ⟨h3, h⟩ := ba h
  obtain ⟨h4, h⟩ := ba h
  obtain ⟨h5, h⟩ := ba h
  obtain ⟨h6, h⟩ := ba h
  obtain ⟨h7, h⟩ := ba h
  obtain ⟨h8, h⟩ := ba h
  obtain ⟨h9, h⟩ := ba h
  obtain ⟨h10, h⟩ := ba h
  obtain ⟨h11, h⟩ := ba h
  obtain ⟨h12, h13⟩ := ba h
  exact ⟨h1, h2, eqO_ok h3, eqO_ok h4, eqO_ok h5, of_decide_eq_true h6, of_decide_eq_true h7, h8, h9, eqO_ok h10, eqO_ok h11, of_decide_eq_true h12, of_decide_eq_true h13⟩
/-- .. and of its __init__ -/
def iniB (K : PySem.W.Frag) (C : Addr) : Bool :=
  eqO (PySem.W.findIn K (.ref C) "__init__") (some (some (.ref (ma K C "__init__")))) &&
  decide (PySem.W.typeIn K (.ref (ma K C "__init__")) = some (.type "function"))
/-! ### a Hook with a test of one's own -/
abbrev AlX : Type := Bool × AlD
def hookX (n : Nat) (fa : List Fa) (fn : List DefD) (ex : PySem.W.Frag → Bool) : PySem.W.Hook where
  α := AlX
  obs := fun s => (ex (frG s.heap.get? (asD s.heap.get? n)), obsDG n fa fn s.heap.get?)
  val := fun _ => (true, valD fn)
  says := fun _ h => ∃ K : PySem.W.Frag, K.In h ∧ ex K = true ∧ SaysD fa fn K
  of := fun _ _ e => ⟨_, frG_in, congrArg Prod.fst e, congrArg Prod.snd e⟩
  keeps := fun _ _ _ ⟨K, hK, c⟩ k => ⟨K, PySem.W.Frag.In.keeps hK k, c⟩
def obX (n : Nat) (fa : List Fa) (fn : List DefD) (ex : PySem.W.Frag → Bool) (s : PySem.W.SharedT) : AlX :=
  (ex (frG (HandSHeadRun.getT s) (asD (HandSHeadRun.getT s) n)), obsDG n fa fn (HandSHeadRun.getT s))
theorem obX_eq {n : Nat} {fa : List Fa} {fn : List DefD} {ex : PySem.W.Frag → Bool} (s : PySem.W.SharedT) : obX n fa fn ex s = (hookX n fa fn ex).obs s.abs := by
  have e : HandSHeadRun.getT s = s.abs.heap.get? := funext (HandSHeadRun.getT_eq s)
  unfold obX hookX
  rw [e] <;> rfl
end He

set_option Elab.async false
set_option maxRecDepth 100000
set_option maxHeartbeats 4000000
set_option linter.all false
namespace L2
open PySem PySem.Spec PyProof.Rows
/-! ### a def of the module by its name -/
structure Def (P : Program) (w : World) (K : PySem.W.Frag) (mg : Str → Option Value) (base : Heap) (CX : CXT) (k : Nat) (x : Str) (ps : List Str) (sp : Sp) : Prop where
  ex : ∃ (f : Addr) (fd : FuncData), mg x = some (.ref f) ∧ PySem.W.keepIn K (.ref f) = true ∧ Binds K fd ps [] ∧ FnOk P w K mg base CX k f fd ps sp
section
variable {X : Cx} {CX : CXT} {k : Nat} {ps : List Str} {sp : Sp} {E : XK} {x : Str} {p pos : Pos} {e : Expr} {es : List Expr} {t : TA}
theorem pe_ref {a : Addr} {pos : Pos} (hg : Gl X x) (hm : X.mg x = some (.ref a)) (hd : (x == ("__debug__" : Str)) = false := by decide) : PE X (.Name x pos) (tC (.ref a)) :=
  pe_glob hg hm (show RelV (.ref a) (Value.ref a) from rfl) hd
theorem pe_fn (c : Def X.prog X.w X.K X.mg X.base CX k x ps sp) (hr : Room k X.A) (hg : Gl X x) (hx : Passes CX X E) (ha : PA X (e :: es) t)
    (hdb : (x == ("__debug__" : Str)) = false := by decide) (he : starEach (e :: es) X.env = (false, eval e X.env) :: starEach es X.env := by rfl)
    (hpl : (backTo pos (starEach es X.env)).any (·.1) = false := by rfl) : PE X (.Call (.Name x p) (e :: es) [] pos) (tCall sp [] E t) := by
  obtain ⟨f, fd, hm, hk, hb, F⟩ := c.ex
  exact pe_call F hr hg hm hk hb .nil hx ha hdb he hpl
theorem pe_fn0 (c : Def X.prog X.w X.K X.mg X.base CX k x ps sp) (hr : Room k X.A) (hg : Gl X x) (hx : Passes CX X E)
    (hdb : (x == ("__debug__" : Str)) = false := by decide) : PE X (.Call (.Name x p) [] [] pos) (tCall sp [] E tNil) := by
  obtain ⟨f, fd, hm, hk, hb, F⟩ := c.ex
  exact pe_call0 F hr hg hm hk hb .nil hx hdb
end
/-! ### __init__ of an own error: it stores what it is given -/
section
variable {P : Program} {w : World} {K : PySem.W.Frag} {mg : Str → Option Value} {base : Heap}
theorem ok_ini1 {C f : Addr} {fd : FuncData} {fn qual : Str} {params : Arguments} {scope : Scope} {p1 p2 p3 p4 : Pos}
    (F : FunD K "__init__" qual params [.Assign [.Attribute (.Name "self" p1) fn p2] (.Name fn p3) p4] scope [] [] f fd) (S : FnScope ["self", fn] ["self", fn] scope)
    (v1 : scope.names.lookup ("self" : Str) = some NameKind.local) (v2 : scope.names.lookup fn = some NameKind.local) (d1 : (fn == ("__debug__" : Str)) = false) (d2 : (fn == ("__classdict__" : Str)) = false)
    (T : ErrC K C) (hno : PySem.W.findIn K (.ref C) fn = some none) : FnOk P w K mg base CX0 1 f fd ["self", fn] (spErr C [fn]) := by
  refine F.ok S (fun vs H Q E h => ?_) (fun cdv A outer s H vs Q E hr h => ?_)
  · obtain ⟨a, ws, rfl, hl, _⟩ := h
    rw [List.length_cons, hl] <;> rfl
  · obtain ⟨a, ws, rfl, hl, ha, k⟩ := h
    obtain ⟨y, rfl⟩ : ∃ y, ws = [y] := by
      match ws, hl with
      | [y], _ => exact ⟨y, rfl⟩
    refine ⟨_, PSs.nox (pss_one (ps_put (pe_var (i := 0) rfl (.inl v1)) (pe_var (i := 1) rfl (.inl v2) d1 d2))), ?_⟩
    refine ⟨_, rfl, _, rfl, a, C, rfl, T, hno, .inl ⟨ha, fun dx nd ne => ?_⟩⟩
    refine k dx _ nd ne ?_ upd_same fun b h1 h2 => ?_
    · rw [upd_ne ne, upd_same]
      rfl
    · rw [upd_ne h1, upd_ne h2]
theorem ok_ini2 {C f : Addr} {fd : FuncData} {fn gn qual : Str} {params : Arguments} {scope : Scope} {p1 p2 p3 p4 q1 q2 q3 q4 : Pos}
    (F : FunD K "__init__" qual params [.Assign [.Attribute (.Name "self" p1) fn p2] (.Name fn p3) p4, .Assign [.Attribute (.Name "self" q1) gn q2] (.Name gn q3) q4] scope [] [] f fd)
    (S : FnScope ["self", fn, gn] ["self", fn, gn] scope)
    (v1 : scope.names.lookup ("self" : Str) = some NameKind.local) (v2 : scope.names.lookup fn = some NameKind.local) (v3 : scope.names.lookup gn = some NameKind.local)
    (d1 : (fn == ("__debug__" : Str)) = false) (d2 : (fn == ("__classdict__" : Str)) = false) (d3 : (gn == ("__debug__" : Str)) = false) (d4 : (gn == ("__classdict__" : Str)) = false)
    (T : ErrC K C) (hno : PySem.W.findIn K (.ref C) fn = some none) (hno2 : PySem.W.findIn K (.ref C) gn = some none) : FnOk P w K mg base CX0 1 f fd ["self", fn, gn] (spErr C [fn, gn]) := by
  refine F.ok S (fun vs H Q E h => ?_) (fun cdv A outer s H vs Q E hr h => ?_)
  · obtain ⟨a, ws, rfl, hl, _⟩ := h
    rw [List.length_cons, hl] <;> rfl
  · obtain ⟨a, ws, rfl, hl, ha, k⟩ := h
    obtain ⟨y, z, rfl⟩ : ∃ y z, ws = [y, z] := by
      match ws, hl with
      | [y, z], _ => exact ⟨y, z, rfl⟩
    refine ⟨_, PSs.nox (pss_cons (ps_put (pe_var (i := 0) rfl (.inl v1)) (pe_var (i := 1) rfl (.inl v2) d1 d2)) (pss_one (ps_put (pe_var (i := 0) rfl (.inl v1)) (pe_var (i := 2) rfl (.inl v3) d3 d4)))), ?_⟩
    refine ⟨_, rfl, _, rfl, a, C, rfl, T, hno, .inl ⟨ha, fun dx nd ne => ?_⟩⟩
    have e1 : upd (upd H dx (exd dx [(fn, y)])) a (exo a C (some dx)) dx = some (exd dx [(fn, y)]) := by
      rw [upd_ne ne, upd_same]
    refine ⟨_, rfl, _, rfl, a, C, rfl, T, hno2, .inr ⟨dx, _, upd_same, e1, by show 1 ≤ 900; decide, ?_⟩⟩
    refine k dx _ nd ne ?_ ?_ fun b h1 h2 => ?_
    · rw [upd_same]
      rfl
    · rw [upd_ne (Ne.symm ne), upd_same]
    · rw [upd_ne h2, upd_ne h1, upd_ne h2]
end
theorem Same.new {H : Hp} {p : Addr} {o : HO} (h : H p = none) : Same H (upd H p o) := fun b u e => by
  rw [upd_ne (ne_of_none e h)]
  exact e
/-! ### ways joined -/
theorem tchainC {f g : Int → Int → Bool} {c i j : Int} {ta tb : TE} {σ : St} {H : Hp} {Q : VK} (ha : Val ta σ H (.int i)) (hb : Val tb σ H (.int j)) (h : Q (.bl (f i j && g j c)) H) :
    tChain (rI0 fun i j => .bl (f i j)) (rI0 fun i j => .bl (g i j)) ta tb (tC (.int c)) σ H Q := by
  refine ha _ (hb _ ⟨i, j, rfl, rfl, f i j, rfl, ?_⟩)
  cases e : f i j with
  | true =>
    rw [e] at h
    exact iteT ⟨j, c, rfl, rfl, h⟩
  | false =>
    rw [e] at h
    exact iteF h
theorem iteF' {c : Bool} {A B : Prop} (hc : c = false) (h : B) : if c = true then A else B := by
  rw [hc]
  exact iteF h
theorem iteT' {c : Bool} {A B : Prop} (hc : c = true) (h : A) : if c = true then A else B := by
  rw [hc]
  exact iteT h
/-! ### an own error by the name of its class -/
structure ErrDef (P : Program) (w : World) (K : PySem.W.Frag) (mg : Str → Option Value) (base : Heap) (CX : CXT) (k : Nat) (x : Str) (C : Addr) (ps fns : List Str) : Prop where
  ex : ∃ (fI : Addr) (fd : FuncData), mg x = some (.ref C) ∧ ErrC K C ∧ PySem.W.findIn K (.ref C) "__init__" = some (some (.ref fI)) ∧ PySem.W.typeIn K (.ref fI) = some (.type "function") ∧
    Binds K fd ps [] ∧ (∀ (s : Shared) (e : Value) (ws : List Value), K.In s.heap → ws.length = fns.length → BindsTo s fd ⟨[e], fns.reverse.zip ws⟩ (ps.zip (e :: ws.reverse))) ∧
    FnOk P w K mg base CX k fI fd ps (spErr C fns) ∧ fns.length ≤ 1000 ∧ ps.length = fns.length + 1
section
variable {X : Cx} {CX : CXT} {k : Nat} {C : Addr} {ps fns : List Str} {x : Str} {p pos : Pos} {e : Expr} {es : List Expr} {ta : TA}
theorem pe_err (c : ErrDef X.prog X.w X.K X.mg X.base CX k x C ps fns) (hr : Room (k + 1) X.A) (hg : Gl X x) (hx : Passes CX X E0) (ha : PA X (e :: es) ta)
    (hdb : (x == ("__debug__" : Str)) = false := by decide) (he : starEach (e :: es) X.env = (false, eval e X.env) :: starEach es X.env := by rfl)
    (hpl : (backTo pos (starEach es X.env)).any (·.1) = false := by rfl) : PE X (.Call (.Name x p) (e :: es) [] pos) (tNew C fns ta) := by
  obtain ⟨fI, fd, hm, T, iC, tI, hb, _, F, few, hp⟩ := c.ex
  exact pe_new (CX := CX) (k := k) (fI := fI) (fd := fd) (ps := ps) ⟨T, iC, tI, F, few⟩ hr hg hm hb hp hx ha hdb he hpl
/-- the keywords in turned order -/
theorem pe_errK {kws : List Keyword} {tk : TA} (c : ErrDef X.prog X.w X.K X.mg X.base CX k x C ps fns) (hr : Room (k + 1) X.A) (hg : Gl X x) (hx : Passes CX X E0)
    (hkw : PK X kws tk) (hall : (backToKw pos (keywordEach kws X.env)).all (·.1.isSome) = true := by rfl) (hks : (backToKw pos (keywordEach kws X.env)).filterMap (·.1) = fns.reverse := by rfl)
    (hdb : (x == ("__debug__" : Str)) = false := by decide)
    (hpl : ((backTo pos (starEach [] X.env)).any (·.1) || (backToKw pos (keywordEach kws X.env)).any (·.1.isNone)) = false := by rfl) :
    PE X (.Call (.Name x p) [] kws pos) (tNew C fns fun σ H Q => tk σ H fun zs H1 => zs.length = fns.length ∧ Q zs.reverse H1) := by
  obtain ⟨fI, fd, hm, T, iC, tI, _, hb, F, few, hp⟩ := c.ex
  exact pe_newK (CX := CX) (k := k) (fI := fI) (fd := fd) (ps := ps) (ks := fns.reverse) (g := List.reverse) ⟨T, iC, tI, F, few⟩ hr hg hm hb (fun r _ => r.reverse) (fun zs h => by rw [List.length_reverse, h]) hx hkw hall hks hdb hpl
end
theorem nx_ {t b c : St → Hp → Prop} {r : VK} {σ : St} {H : Hp} (h : t σ H) : ({ nx := t, rt := r, bk := b, ct := c } : Ends).nx σ H := h
end L2

set_option Elab.async false
set_option maxRecDepth 100000
set_option maxHeartbeats 4000000
set_option linter.all false
namespace K84
open PySem PySem.Spec PyProof.Rows L2
def top (i : Nat) : Stmt := PySem.Challenge.pw_openruns_k84_errors_made_by_name.main.body.getD i (.Pass ⟨0, 0, 0, 0⟩)
abbrev sPool : Stmt := top 15
abbrev sDraw : Stmt := top 16
abbrev sAbove : Stmt := top 17
abbrev sFits : Stmt := top 18
abbrev sInputs : Stmt := top 19
abbrev sLaw : Stmt := top 20
abbrev FnP (K : PySem.W.Frag) (x : Str) (st : Stmt) (f : Addr) (fd : FuncData) : Prop := FunD K x x (defArgs st) (defBody st) (defScope st) [] [] f fd
/-! ### the pool of draws -/
def poolK (b s c : Int) : List (Key × V) := [(.inr "big", .int b), (.inr "seed", .int s), (.inr "count", .int c)]
/-- a pool stands at p -/
def PoolAt (H : Hp) (p : Addr) : Prop := ∃ b s c : Int, H p = some (.dK (poolK b s c))
theorem nBS : ¬ (("big" : Str) = "seed") := by decide +kernel
theorem nBC : ¬ (("big" : Str) = "count") := by decide +kernel
theorem nSC : ¬ (("seed" : Str) = "count") := by decide +kernel
theorem kne {x y : Str} (h : ¬ x = y) : ¬ (Sum.inr x : Key) = Sum.inr y := fun e => h (Sum.inr.inj e)
theorem dg_big {H : Hp} {p : Addr} {b s c : Int} (h : H p = some (.dK (poolK b s c))) : DGet H p (.str "big") (some (.int b)) := by
  have e : valV (poolK b s c) (.inr "big" : Key) = some (.int b) := valV_pos rfl
  rw [← e]
  exact DGet.k (k := .inr "big") h
theorem dg_seed {H : Hp} {p : Addr} {b s c : Int} (h : H p = some (.dK (poolK b s c))) : DGet H p (.str "seed") (some (.int s)) := by
  have e : valV (poolK b s c) (.inr "seed" : Key) = some (.int s) := (valV_neg (kne nBS)).trans (valV_pos rfl)
  rw [← e]
  exact DGet.k (k := .inr "seed") h
theorem dg_count {H : Hp} {p : Addr} {b s c : Int} (h : H p = some (.dK (poolK b s c))) : DGet H p (.str "count") (some (.int c)) := by
  have e : valV (poolK b s c) (.inr "count" : Key) = some (.int c) := (valV_neg (kne nBC)).trans ((valV_neg (kne nSC)).trans (valV_pos rfl))
  rw [← e]
  exact DGet.k (k := .inr "count") h
theorem dp_big {H : Hp} {p : Addr} {b s c z : Int} (h : H p = some (.dK (poolK b s c))) : DPut H p (.str "big") (.int z) (upd H p (.dK (poolK z s c))) := by
  have e : putK (poolK b s c) (.inr "big" : Key) (.int z) = poolK z s c := by
    simp [putK, poolK, (kne nBS), (kne nBC), Ne.symm (kne nBS), Ne.symm (kne nBC)]
  rw [← e]
  exact DPut.k (k := .inr "big") h (small1000 (by show 3 ≤ 1000; decide))
theorem dp_count {H : Hp} {p : Addr} {b s c z : Int} (h : H p = some (.dK (poolK b s c))) : DPut H p (.str "count") (.int z) (upd H p (.dK (poolK b s z))) := by
  have e : putK (poolK b s c) (.inr "count" : Key) (.int z) = poolK b s z := by
    simp [putK, poolK, (kne nSC), (kne nBC), Ne.symm (kne nSC), Ne.symm (kne nBC)]
  rw [← e]
  exact DPut.k (k := .inr "count") h (small1000 (by show 3 ≤ 1000; decide))
def spPool (K : PySem.W.Frag) : Sp := fun vs H Q _ => ∃ (a : Addr) (ns : List Int) (k : Int), vs = [.ref a, .int k] ∧ SqL K H a (ns.map V.int) ∧ 0 ≤ k ∧ ns.length ≤ 63 ∧
  ∀ (p : Addr) (b s c : Int), H p = none → Q (.ref p) (upd H p (.dK (poolK b s c)))
def spDraw : Sp := fun vs H Q _ => ∃ (p : Addr) (m b s c : Int), vs = [.ref p, .int m] ∧ H p = some (.dK (poolK b s c)) ∧ 1 ≤ m ∧ m < 1000000 ∧
  ∀ d b' s' c' : Int, 0 ≤ d → d < m → Q (.int d) (upd H p (.dK (poolK b' s' c')))
section
variable {P : Program} {w : World} {K : PySem.W.Frag} {mg : Str → Option Value} {base : Heap}
abbrev nPool : List Str := ["_law_script", "_law_number", "_law_cell", "_law_big"]
abbrev nDraw : List Str := ["_law_pool_here", "_law_many", "_law_digit", "_law_first", "_law_second"]
theorem scPool : FnScope nPool ["_law_script", "_law_number"] (defScope sPool) := ⟨rfl, rfl, rfl, by decide +kernel, rfl, by decide +kernel, by decide +kernel⟩
theorem scDraw : FnScope nDraw ["_law_pool_here", "_law_many"] (defScope sDraw) := ⟨rfl, rfl, rfl, by decide +kernel, rfl, by decide +kernel, by decide +kernel⟩
theorem ok_draw {f : Addr} {fd : FuncData} (F : FnP K "_law_draw" sDraw f fd) (gInt : mg "int" = none) : FnOk P w K mg base CX0 1 f fd ["_law_pool_here", "_law_many"] spDraw := by
  refine F.ok scDraw (fun vs H Q E h => ?_) (fun cdv A outer s H vs Q E hr h => ?_)
  · obtain ⟨p, m, b, s, c, rfl, _⟩ := h
    rfl
  · obtain ⟨p, m, b, s, c, rfl, hp, m1, m2, k⟩ := h
    have hu := hu_of hr
    refine ⟨_, PSs.nox (pss_cons (ps_dput hu (pv 0) pe_str (pe_op op_add (pe_dget hu (pv 0) pe_str (fun _ _ => rfl)) pe_int) rfl)
      (pss_cons (ps_if (pt_cmpR op_gt (pe_dget hu (pv 0) pe_str (fun _ _ => rfl)) pe_int (nomark _))
        (pss_cons (ps_set (i := 2) scDraw.nd rfl (.inl rfl) (pe_op op_modN (pe_callTy call_int1 (by rfl) gInt (by decide +kernel) (pa_cons (pe_dget hu (pv 0) pe_str (fun _ _ => rfl)) pa_nil)) (pv 1)))
        (pss_cons (ps_dput hu (pv 0) pe_str (pe_op op_fdivN (pe_dget hu (pv 0) pe_str (fun _ _ => rfl)) (pv 1)) rfl)
        (pss_one (ps_ret (pv 2))))) pss_nil)
      (pss_cons (ps_set (i := 3) scDraw.nd rfl (.inl rfl) (pe_op op_add (pe_op op_modN (pe_callTy call_int1 (by rfl) gInt (by decide +kernel) (pa_cons
          (pe_op op_add (pe_op op_add (pe_op op_mul (pe_dget hu (pv 0) pe_str (fun _ _ => rfl)) pe_int) (pe_op op_mul (pe_dget hu (pv 0) pe_str (fun _ _ => rfl)) pe_int)) pe_int) pa_nil)) pe_int) pe_int))
      (pss_cons (ps_set (i := 4) scDraw.nd rfl (.inl rfl) (pe_op op_modN (pe_callTy call_int1 (by rfl) gInt (by decide +kernel) (pa_cons
          (pe_op op_mul (pv 3) (pe_op op_add (pe_op op_fdivN (pv 3) pe_int) pe_int)) pa_nil)) pe_int))
      (pss_cons (ps_set (i := 4) scDraw.nd rfl (.inl rfl) (pe_op op_modN (pe_callTy call_int1 (by rfl) gInt (by decide +kernel) (pa_cons
          (pe_op op_mul (pv 4) (pe_op op_add (pe_op op_fdivN (pv 4) pe_int) pe_int)) pa_nil)) pe_int))
      (pss_one (ps_ret (pe_op op_modN (pe_callTy call_int1 (by rfl) gInt (by decide +kernel) (pa_cons (pe_op op_fdivN (pv 4) pe_int) pa_nil)) (pv 1))))))))), ?_⟩
    -- the count goes on
    refine ⟨_, rfl, p, _, rfl, dg_count hp, _, _, rfl, rfl, _, rfl, p, _, rfl, dp_count hp, ?_⟩
    have h1 : upd H p (.dK (poolK b s (c + 1))) p = some (.dK (poolK b s (c + 1))) := upd_same
    refine ⟨_, rfl, p, _, rfl, dg_big h1, _, _, rfl, rfl, _, rfl, ?_⟩
    refine ite2 (fun hb => ?_) fun hb => ?_
    · refine ⟨_, rfl, p, _, rfl, dg_big h1, .inl ⟨_, rfl, _, rfl, _, _, rfl, rfl, by omega, ?_⟩⟩
      refine ⟨_, rfl, p, _, rfl, dg_big h1, _, rfl, _, _, rfl, rfl, ⟨by omega, by omega⟩, _, rfl, p, _, rfl, dp_big h1, _, rfl, ?_⟩
      rw [upd_upd]
      exact k _ _ _ _ (Int.fmod_nonneg_of_pos _ (by omega)) (Int.fmod_lt_of_pos _ (by omega))
    · refine ⟨_, rfl, p, _, rfl, dg_seed h1, ?_⟩
      refine ⟨_, _, rfl, rfl, .inr ⟨by omega, by omega⟩, ?_⟩
      refine ⟨_, rfl, p, _, rfl, dg_count h1, _, _, rfl, rfl, .inr ⟨by omega, by omega⟩, _, _, rfl, rfl, _, _, rfl, rfl, .inl ⟨_, rfl, _, _, rfl, rfl, (by show (2147483629 : Int) ≠ 0; decide), _, _, rfl, rfl, ?_⟩⟩
      generalize hx : (s * 48271 + (c + 1) * 7919 + 30103).fmod 2147483629 = x1
      have x1a : 0 ≤ x1 := by rw [← hx]; exact Int.fmod_nonneg_of_pos _ (by decide)
      have x1b : x1 < 2147483629 := by rw [← hx]; exact Int.fmod_lt_of_pos _ (by decide)
      refine ⟨_, rfl, _, rfl, _, _, rfl, rfl, ⟨by decide, by decide⟩, _, _, rfl, rfl, _, _, rfl, rfl, .inl ⟨by omega, by omega⟩, .inl ⟨_, rfl, _, _, rfl, rfl, (by show (2147483647 : Int) ≠ 0; decide), ?_⟩⟩
      generalize hy : ((x1 + 1) * ((x1 + 1).fdiv 1009 + 69621)).fmod 2147483647 = x2
      have x2a : 0 ≤ x2 := by rw [← hy]; exact Int.fmod_nonneg_of_pos _ (by decide)
      have x2b : x2 < 2147483647 := by rw [← hy]; exact Int.fmod_lt_of_pos _ (by decide)
      refine ⟨_, rfl, _, rfl, _, _, rfl, rfl, ⟨by decide, by decide⟩, _, _, rfl, rfl, _, _, rfl, rfl, .inl ⟨by omega, by omega⟩, .inl ⟨_, rfl, _, _, rfl, rfl, (by show (2147483399 : Int) ≠ 0; decide), ?_⟩⟩
      refine ⟨_, rfl, _, _, rfl, rfl, ⟨by decide, by decide⟩, .inl ⟨_, rfl, _, rfl, _, _, rfl, rfl, by omega, ?_⟩⟩
      exact k _ _ _ _ (Int.fmod_nonneg_of_pos _ (by omega)) (Int.fmod_lt_of_pos _ (by omega))
theorem ok_pool {f : Addr} {fd : FuncData} (F : FnP K "_law_pool" sPool f fd) (gInt : mg "int" = none) (gLen : mg "len" = none) : FnOk P w K mg base CX0 1 f fd ["_law_script", "_law_number"] (spPool K) := by
  refine F.ok scPool (fun vs H Q E h => ?_) (fun cdv A outer s H vs Q E hr h => ?_)
  · obtain ⟨a, ns, k, rfl, _⟩ := h
    rfl
  · obtain ⟨a, ns, k, rfl, hs, k0, hl, q⟩ := h
    have hu := hu_of hr
    refine ⟨_, PSs.nox (pss_cons (ps_set (i := 2) scPool.nd rfl (.inl rfl) pe_int)
      (C8.pss_cut (ps_if (pt_cmpR op_lt (pv 1) (pe_callB call_len_seq (by rfl) gLen PySem.boot_len (pa_cons (pv 0) pa_nil)) (nomark _))
        (pss_one (ps_set (i := 2) scPool.nd rfl (.inl rfl) (pe_callTy call_int1 (by rfl) gInt (by decide +kernel) (pa_cons (pe_ix ix_list (pv 0) (pv 1) (fun _ _ => rfl)) pa_nil)))) pss_nil)
      (pss_cons (ps_set (i := 3) scPool.nd rfl (.inl rfl) pe_int)
      (C8.pss_cut (ps_if (pt_cmpR op_ge (pv 2) (pe_op op_pow pe_int pe_int) (nomark _))
        (pss_one (ps_set (i := 3) scPool.nd rfl (.inl rfl) (pe_op op_modN (pe_callTy call_int1 (by rfl) gInt (by decide +kernel) (pa_cons (pv 2) pa_nil)) (pe_op op_powW (pe_op op_pow pe_int pe_int) pe_int)))) pss_nil)
      (pss_one (ps_ret (pe_disp (pps_cons pe_str (pv 3) (pps_cons pe_str (pe_op op_modN (pe_callTy call_int1 (by rfl) gInt (by decide +kernel) (pa_cons (pv 2) pa_nil)) pe_int)
        (pps_cons pe_str (pe_op op_mul pe_int (pv 1)) pps_nil))) (by rfl) (by rfl) (fun z => by cases z) (by decide)))))))), ?_⟩
    refine ⟨fun σ' H' => H' = H ∧ ∃ z : Int, σ' = [some (.ref a), some (.int k), some (.int z), none], ?_, ?_⟩
    · refine ⟨_, rfl, _, rfl, a, _, rfl, .inl hs, _, _, rfl, rfl, _, rfl, ?_⟩
      refine ite2 (fun hk => ?_) fun hk => ⟨rfl, 0, rfl⟩
      have hk' : k < ((ns.map V.int).length : Int) := of_decide_eq_true hk
      obtain ⟨j, rfl⟩ := Int.eq_ofNat_of_zero_le k0
      have hj : j < ns.length := by simpa using hk'
      exact ⟨_, rfl, _, rfl, a, _, _, V.int (ns[j]'hj), rfl, rfl, hs, atI_nat (by simp [hj]), .inl ⟨_, rfl, rfl, _, rfl⟩⟩
    · rintro σ' H' ⟨rfl, z, rfl⟩
      refine ⟨fun σ' H2 => H2 = H' ∧ ∃ b : Int, σ' = [some (.ref a), some (.int k), some (.int z), some (.int b)], ?_, ?_⟩
      · refine ⟨_, rfl, _, _, rfl, rfl, ⟨by decide, by decide, by decide⟩, _, _, rfl, rfl, _, rfl, ?_⟩
        refine ite2 (fun _ => ?_) fun _ => ⟨rfl, 0, rfl⟩
        refine ⟨_, rfl, .inl ⟨_, rfl, _, _, rfl, rfl, ⟨by decide, by decide, by decide⟩, _, _, rfl, rfl, ?_, _, _, rfl, rfl, ?_, rfl, _, rfl⟩⟩
        · exact ⟨by decide +kernel, by decide, by decide⟩
        · show ((10 : Int) ^ 50) ^ 8 ≠ 0
          decide +kernel
      · rintro σ' H2 ⟨rfl, b, rfl⟩
        intro p np
        refine ⟨_, rfl, _, rfl, .inl ⟨_, rfl, _, _, rfl, rfl, (by show (2147483647 : Int) ≠ 0; decide), ?_⟩⟩
        refine ⟨_, rfl, _, _, rfl, rfl, .inl ⟨by decide, by decide⟩, ?_⟩
        refine ⟨upd_same, poolK b (z.fmod 2147483647) (7 * k), rfl, by show 3 ≤ 15; decide, ?_⟩
        have e : mergeK [] (poolK b (z.fmod 2147483647) (7 * k)) = poolK b (z.fmod 2147483647) (7 * k) := by
          simp [mergeK, putK, poolK, (kne nSC), (kne nBC), Ne.symm (kne nSC), Ne.symm (kne nBC), kne nBS, Ne.symm (kne nBS)]
        rw [e, upd_upd]
        exact q p _ _ _ np
end
end K84

set_option Elab.async false
set_option maxRecDepth 100000
set_option maxHeartbeats 4000000
set_option linter.all false
namespace K84
open PySem PySem.Spec PyProof.Rows L2
abbrev s__law_above : Stmt := top 17
abbrev n__law_above : List Str := ["_law_error"]
abbrev p__law_above : List Str := ["_law_error"]
theorem sc__law_above : FnScope n__law_above p__law_above (defScope s__law_above) := ⟨rfl, rfl, rfl, by decide +kernel, rfl, by decide +kernel, by decide +kernel⟩
abbrev s__law_fits : Stmt := top 18
abbrev n__law_fits : List Str := ["_law_error", "_law_number", "_law_due", "_law_count"]
abbrev p__law_fits : List Str := ["_law_error", "_law_number"]
theorem sc__law_fits : FnScope n__law_fits p__law_fits (defScope s__law_fits) := ⟨rfl, rfl, rfl, by decide +kernel, rfl, by decide +kernel, by decide +kernel⟩
abbrev s__law_inputs_fit : Stmt := top 19
abbrev n__law_inputs_fit : List Str := ["_law_text", "_law_steps", "_law_index", "_law_error"]
abbrev p__law_inputs_fit : List Str := ["_law_text", "_law_steps", "_law_index"]
theorem sc__law_inputs_fit : FnScope n__law_inputs_fit p__law_inputs_fit (defScope s__law_inputs_fit) := ⟨rfl, rfl, rfl, by decide +kernel, rfl, by decide +kernel, by decide +kernel⟩
abbrev s_law : Stmt := top 20
abbrev n_law : List Str := ["_law_script", "_law_pool_here", "_law_text", "_law_steps", "_law_index", "_law_error", "_law_count"]
abbrev p_law : List Str := ["_law_script"]
theorem sc_law : FnScope n_law p_law (defScope s_law) := ⟨rfl, rfl, rfl, by decide +kernel, rfl, by decide +kernel, by decide +kernel⟩
/-! ### the errors -/
/-- the ten classes, then the two above them -/
def nm : List Str := ["InvalidProgram", "InvalidHistory", "InvalidText", "InvalidArgument", "InvalidNote", "Falls", "Breaks", "NoRun", "Taken", "LimitExceeded", "InputError", "RunError"]
def due (n : Nat) : List Bool := (List.range 10).map (fun i => decide (n = i)) ++ [decide (n < 5), decide (5 ≤ n) && decide (n < 9)]
def C_ (K : PySem.W.Frag) (n : Nat) : Addr := He.ga K (nm.getD n "")
/-- what the head tells of the class n -/
structure ClsAt (K : PySem.W.Frag) (n : Nat) : Prop where
  err : ErrC K (C_ K n)
  kit : nm.map (fun x => PySem.W.kitOne K (.ref (C_ K n)) (.ref (He.ga K x))) = (due n).map some
  opn : PySem.W.kitOne K (.ref (C_ K n)) (.ref (He.ga K "OpenError")) = some true
  lke : PySem.W.kitOne K (.ref (C_ K n)) (.type "LookupError") = some true
  val : PySem.W.kitOne K (.ref (C_ K n)) (.type "ValueError") = some false
  key : PySem.W.kitOne K (.ref (C_ K n)) (.type "KeyError") = some false
/-- an error of the class n stands at a, with these fields -/
def ErrAt (K : PySem.W.Frag) (H : Hp) (n : Nat) (a : Addr) (fs : List (Str × V)) : Prop := ∃ dx, H a = some (exo a (C_ K n) (some dx)) ∧ H dx = some (exd dx fs)
def spAbove (K : PySem.W.Frag) : Sp := fun vs H Q _ => ∃ (a : Addr) (n : Nat) (fs : List (Str × V)), vs = [.ref a] ∧ n < 10 ∧ ErrAt K H n a fs ∧
  ∀ p, H p = none → Q (.ref p) (upd H p (.lst ((due n).map V.bl)))
def spFits (K : PySem.W.Frag) : Sp := fun vs H Q _ => ∃ (a : Addr) (n : Nat) (fs : List (Str × V)), vs = [.ref a, .int n] ∧ n < 10 ∧ ErrAt K H n a fs ∧
  ∀ H', Same H H' → Q (.bl true) H'
/-- the module's names -/
structure Names (K : PySem.W.Frag) (mg : Str → Option Value) : Prop where
  c_InvalidProgram : mg "InvalidProgram" = some (.ref (C_ K 0))
  c_InvalidHistory : mg "InvalidHistory" = some (.ref (C_ K 1))
  c_InvalidText : mg "InvalidText" = some (.ref (C_ K 2))
  c_InvalidArgument : mg "InvalidArgument" = some (.ref (C_ K 3))
  c_InvalidNote : mg "InvalidNote" = some (.ref (C_ K 4))
  c_Falls : mg "Falls" = some (.ref (C_ K 5))
  c_Breaks : mg "Breaks" = some (.ref (C_ K 6))
  c_NoRun : mg "NoRun" = some (.ref (C_ K 7))
  c_Taken : mg "Taken" = some (.ref (C_ K 8))
  c_LimitExceeded : mg "LimitExceeded" = some (.ref (C_ K 9))
  c_InputError : mg "InputError" = some (.ref (He.ga K "InputError"))
  c_RunError : mg "RunError" = some (.ref (He.ga K "RunError"))
  c_OpenError : mg "OpenError" = some (.ref (He.ga K "OpenError"))
  b_isinstance : mg "isinstance" = none
  b_LookupError : mg "LookupError" = none
  b_ValueError : mg "ValueError" = none
  b_KeyError : mg "KeyError" = none
  b_int : mg "int" = none
  b_len : mg "len" = none
  b_range : mg "range" = none
  b_tuple : mg "tuple" = none
  cl : ∀ n, n < 10 → ClsAt K n
  na_InvalidProgram_part : PySem.W.findIn K (.ref (C_ K 0)) "part" = some none
  na_InvalidProgram_path : PySem.W.findIn K (.ref (C_ K 0)) "path" = some none
  na_InvalidHistory_at : PySem.W.findIn K (.ref (C_ K 1)) "at" = some none
  na_InvalidText_line : PySem.W.findIn K (.ref (C_ K 2)) "line" = some none
  na_InvalidArgument_part : PySem.W.findIn K (.ref (C_ K 3)) "part" = some none
  na_InvalidNote_at : PySem.W.findIn K (.ref (C_ K 4)) "at" = some none
  na_Falls_word : PySem.W.findIn K (.ref (C_ K 5)) "word" = some none
  na_Falls_path : PySem.W.findIn K (.ref (C_ K 5)) "path" = some none
  na_Breaks_at : PySem.W.findIn K (.ref (C_ K 6)) "at" = some none
  na_Breaks_word : PySem.W.findIn K (.ref (C_ K 6)) "word" = some none
  na_NoRun_name : PySem.W.findIn K (.ref (C_ K 7)) "name" = some none
  na_Taken_name : PySem.W.findIn K (.ref (C_ K 8)) "name" = some none
  na_LimitExceeded_limit : PySem.W.findIn K (.ref (C_ K 9)) "limit" = some none
theorem kit_at {K : PySem.W.Frag} {n : Nat} (C : ClsAt K n) (i : Nat) (hi : i < 12) : PySem.W.kitOne K (.ref (C_ K n)) (.ref (C_ K i)) = some ((due n).getD i false) := by
  have e := congrArg (fun l : List (Option Bool) => l[i]?) C.kit
  have hn : i < nm.length := hi
  have hd : i < (due n).length := hi
  simp only [List.getElem?_map, List.getElem?_eq_getElem hn, List.getElem?_eq_getElem hd, Option.map_some, Option.some.injEq] at e
  have e1 : nm.getD i "" = nm[i] := by rw [List.getD_eq_getElem?_getD, List.getElem?_eq_getElem hn] <;> rfl
  have e2 : (due n).getD i false = (due n)[i] := by rw [List.getD_eq_getElem?_getD, List.getElem?_eq_getElem hd] <;> rfl
  show PySem.W.kitOne K (.ref (C_ K n)) (.ref (He.ga K (nm.getD i ""))) = _
  rw [e1, e2]
  exact e
section
variable {P : Program} {w : World} {K : PySem.W.Frag} {mg : Str → Option Value} {base : Heap}
theorem ok_above {f : Addr} {fd : FuncData} (F : FnP K "_law_above" s__law_above f fd) (T : Names K mg) : FnOk P w K mg base CX0 1 f fd ["_law_error"] (spAbove K) := by
  refine F.ok sc__law_above (fun vs H Q E h => ?_) (fun cdv A outer s H vs Q E hr h => ?_)
  · obtain ⟨a, n, fs, rfl, _⟩ := h
    rfl
  · obtain ⟨a, n, fs, rfl, hn, ⟨dx, ha, hd⟩, k⟩ := h
    have C := T.cl n hn
    refine ⟨_, PSs.nox (pss_one (ps_ret (pe_lst (pa_cons (pe_callB (call_isErr C.err) (by rfl) T.b_isinstance (by decide +kernel) (pa_cons (pv 0) (pa_cons (pe_ref (by rfl) T.c_InvalidProgram) pa_nil))) (pa_cons (pe_callB (call_isErr C.err) (by rfl) T.b_isinstance (by decide +kernel) (pa_cons (pv 0) (pa_cons (pe_ref (by rfl) T.c_InvalidHistory) pa_nil))) (pa_cons (pe_callB (call_isErr C.err) (by rfl) T.b_isinstance (by decide +kernel) (pa_cons (pv 0) (pa_cons (pe_ref (by rfl) T.c_InvalidText) pa_nil))) (pa_cons (pe_callB (call_isErr C.err) (by rfl) T.b_isinstance (by decide +kernel) (pa_cons (pv 0) (pa_cons (pe_ref (by rfl) T.c_InvalidArgument) pa_nil))) (pa_cons (pe_callB (call_isErr C.err) (by rfl) T.b_isinstance (by decide +kernel) (pa_cons (pv 0) (pa_cons (pe_ref (by rfl) T.c_InvalidNote) pa_nil))) (pa_cons (pe_callB (call_isErr C.err) (by rfl) T.b_isinstance (by decide +kernel) (pa_cons (pv 0) (pa_cons (pe_ref (by rfl) T.c_Falls) pa_nil))) (pa_cons (pe_callB (call_isErr C.err) (by rfl) T.b_isinstance (by decide +kernel) (pa_cons (pv 0) (pa_cons (pe_ref (by rfl) T.c_Breaks) pa_nil))) (pa_cons (pe_callB (call_isErr C.err) (by rfl) T.b_isinstance (by decide +kernel) (pa_cons (pv 0) (pa_cons (pe_ref (by rfl) T.c_NoRun) pa_nil))) (pa_cons (pe_callB (call_isErr C.err) (by rfl) T.b_isinstance (by decide +kernel) (pa_cons (pv 0) (pa_cons (pe_ref (by rfl) T.c_Taken) pa_nil))) (pa_cons (pe_callB (call_isErr C.err) (by rfl) T.b_isinstance (by decide +kernel) (pa_cons (pv 0) (pa_cons (pe_ref (by rfl) T.c_LimitExceeded) pa_nil))) (pa_cons (pe_callB (call_isErr C.err) (by rfl) T.b_isinstance (by decide +kernel) (pa_cons (pv 0) (pa_cons (pe_ref (by rfl) T.c_InputError) pa_nil))) (pa_cons (pe_callB (call_isErr C.err) (by rfl) T.b_isinstance (by decide +kernel) (pa_cons (pv 0) (pa_cons (pe_ref (by rfl) T.c_RunError) pa_nil))) pa_nil))))))))))))))), ?_⟩
    refine ⟨_, rfl, a, dx, fs, _, _, _, rfl, ha, hd, .own _, kit_at C 0 (by decide), _, rfl, a, dx, fs, _, _, _, rfl, ha, hd, .own _, kit_at C 1 (by decide), _, rfl, a, dx, fs, _, _, _, rfl, ha, hd, .own _, kit_at C 2 (by decide), _, rfl, a, dx, fs, _, _, _, rfl, ha, hd, .own _, kit_at C 3 (by decide), _, rfl, a, dx, fs, _, _, _, rfl, ha, hd, .own _, kit_at C 4 (by decide), _, rfl, a, dx, fs, _, _, _, rfl, ha, hd, .own _, kit_at C 5 (by decide), _, rfl, a, dx, fs, _, _, _, rfl, ha, hd, .own _, kit_at C 6 (by decide), _, rfl, a, dx, fs, _, _, _, rfl, ha, hd, .own _, kit_at C 7 (by decide), _, rfl, a, dx, fs, _, _, _, rfl, ha, hd, .own _, kit_at C 8 (by decide), _, rfl, a, dx, fs, _, _, _, rfl, ha, hd, .own _, kit_at C 9 (by decide), _, rfl, a, dx, fs, _, _, _, rfl, ha, hd, .own _, kit_at C 10 (by decide), _, rfl, a, dx, fs, _, _, _, rfl, ha, hd, .own _, kit_at C 11 (by decide), (by show 12 ≤ sizeLine; decide), fun p np => ?_⟩
    exact k p np
end
end K84

set_option Elab.async false
set_option maxRecDepth 100000
set_option maxHeartbeats 4000000
set_option linter.all false
namespace K84
open PySem PySem.Spec PyProof.Rows L2
def dueD (n : Nat) : PyData := .list ((due n).map .bool)
theorem due_shaped : ∀ n, n < 10 → SeqAt.shaped (dueD n) = true := by decide +kernel
theorem dp_bools {K : PySem.W.Frag} {H : Hp} : ∀ bs : List Bool, DpAll K H (bs.map V.bl) (bs.map .bool)
  | [] => .nil
  | b :: bs => .cons (.bl b) (dp_bools bs)
theorem dp_due {K : PySem.W.Frag} {H : Hp} {p : Addr} {n : Nat} (h : H p = some (.lst ((due n).map V.bl))) : Dp K H (.ref p) (dueD n) := .lst (SqL.of h) (dp_bools _)
theorem due_eq (n : Nat) : (List.range 10).map (fun j => V.bl (decide (n = j))) ++ [V.bl (decide ((n : Int) < 5)), V.bl (decide ((5 : Int) ≤ n) && decide ((n : Int) < 9))] = (due n).map V.bl := by
  have e1 : decide ((n : Int) < 5) = decide (n < 5) := decide_eq_decide.mpr (by omega)
  have e2 : decide ((5 : Int) ≤ n) = decide (5 ≤ n) := decide_eq_decide.mpr (by omega)
  have e3 : decide ((n : Int) < 9) = decide (n < 9) := decide_eq_decide.mpr (by omega)
  rw [e1, e2, e3]
  rfl
section
variable {P : Program} {w : World} {K : PySem.W.Frag} {mg : Str → Option Value} {base : Heap}
theorem ok_fits {f : Addr} {fd : FuncData} (F : FnP K "_law_fits" s__law_fits f fd) (T : Names K mg) (G_above : Def P w K mg base CX0 1 "_law_above" ["_law_error"] (spAbove K)) :
    FnOk P w K mg base CX0 2 f fd ["_law_error", "_law_number"] (spFits K) := by
  refine F.ok sc__law_fits (fun vs H Q E h => ?_) (fun cdv A outer s H vs Q E hr h => ?_)
  · obtain ⟨a, n, fs, rfl, _⟩ := h
    rfl
  · obtain ⟨a, n, fs, rfl, hn, ⟨dx, ha, hd⟩, k⟩ := h
    have C := T.cl n hn
    refine ⟨_, PSs.nox (pss_cons (ps_set (i := 2) sc__law_fits.nd rfl (.inl rfl) (pe_op op_cat (pe_lc (own := [("_law_count", 3)]) (g := (gName 3)) (by rfl) sc__law_fits.nd (pi_range1 (by rfl) T.b_range (pa_cons pe_int pa_nil)) (blkOk_by (N := n__law_fits) (sc := defScope s__law_fits) (by decide +kernel)) (fun _ _ _ _ _ => (pg_name (i := 3) sc__law_fits.nd rfl (.inl rfl))) (fun _ _ _ _ _ => pts_nil) (fun _ _ _ _ _ => (pe_cmpR op_eq (pv 1) (pv 3) (nomark _)))) (pe_lst (pa_cons (pe_cmpR op_lt (pv 1) pe_int (nomark _)) (pa_cons (pe_chain op_le op_lt pe_int (pv 1) pe_int) pa_nil)))))
      (pss_cons (ps_if (PW.pt (pw_or (pt_cmpR (op_neD hr.units) (pe_fn G_above (hr.mono (by decide)) (by rfl) pass0 (pa_cons (pv 0) pa_nil)) (pv 2) (nomark _)) (pw_or (pt_not (pt_val (pe_callB (call_isErr C.err) (by rfl) T.b_isinstance (by decide +kernel) (pa_cons (pv 0) (pa_cons (pe_ref (by rfl) T.c_OpenError) pa_nil))))) (pw_or1 (pt_not (pt_val (pe_callB (call_isErr C.err) (by rfl) T.b_isinstance (by decide +kernel) (pa_cons (pv 0) (pa_cons (pe_bltn (v := .ty "LookupError") (u := .type "LookupError") (by rfl) T.b_LookupError (by decide +kernel) rfl) pa_nil))))))))) (pss_one (ps_ret pe_bl)) pss_nil)
      (pss_one (ps_ret (pe_and (pe_not (pe_callB (call_isErr C.err) (by rfl) T.b_isinstance (by decide +kernel) (pa_cons (pv 0) (pa_cons (pe_bltn (v := .ty "ValueError") (u := .type "ValueError") (by rfl) T.b_ValueError (by decide +kernel) rfl) pa_nil)))) (pe_one (pe_not (pe_callB (call_isErr C.err) (by rfl) T.b_isinstance (by decide +kernel) (pa_cons (pv 0) (pa_cons (pe_bltn (v := .ty "KeyError") (u := .type "KeyError") (by rfl) T.b_KeyError (by decide +kernel) rfl) pa_nil)))))))))), ?_⟩
    refine ⟨10, rfl, by decide, by decide, fun D nD => ?_⟩
    refine lc_range (lo := 0) (n := 10) (fun i H' => H' = upd H D (.lst ((List.range i).map fun j => V.bl (decide (n = j))))) rfl (fun i H' hi e => ?_) (fun H' e => ?_)
    · subst e
      refine ⟨rfl, _, rfl, _, rfl, rfl, _, upd_same, ?_, ?_⟩
      · rw [List.length_map, List.length_range]
        exact small1000 (by omega)
      · rw [upd_upd, List.range_succ, List.map_append]
        have e : decide (V.int (n : Int) = V.int (0 + (i : Int))) = decide (n = i) := decide_eq_decide.mpr (by
          constructor
          · intro z
            injection z with z
            omega
          · intro z
            rw [z, Int.zero_add])
        rw [e]
        rfl
    · subst e
      refine ⟨_, rfl, _, _, rfl, rfl, ?_⟩
      refine tchainC val_c (val_var rfl) ?_
      refine ⟨by show 2 ≤ sizeLine; decide, fun p np => ?_⟩
      have nDp : D ≠ p := fun z => by
        rw [← z, upd_same] at np
        cases np
      refine ⟨D, p, _, _, rfl, rfl, by rw [upd_ne nDp]; exact upd_same, upd_same, by show 12 ≤ sizeLine; decide, fun r nr => ?_⟩
      rw [due_eq]
      generalize e3 : upd (upd (upd H D _) p _) r _ = H3
      have S3 : Same H H3 := by
        rw [← e3]
        exact ((Same.new nD).trans (Same.new np)).trans (Same.new nr)
      have h3 : H3 r = some (.lst ((due n).map V.bl)) := by
        rw [← e3]
        exact upd_same
      refine ⟨_, rfl, a, n, fs, rfl, hn, ⟨dx, S3 _ _ ha, S3 _ _ hd⟩, fun q nq => ?_⟩
      have S4 : Same H (upd H3 q (.lst ((due n).map V.bl))) := S3.trans (Same.new nq)
      refine ⟨_, rfl, dueD n, dueD n, dp_due upd_same, dp_due (by rw [upd_ne (ne_of_none h3 nq)]; exact h3), due_shaped n hn, due_shaped n hn, _, rfl, ?_⟩
      have ev : PyData.eqv (dueD n) (dueD n) = true := SeqAt.eqv_refl _ (SeqAt.canLay_of_shaped (due_shaped n hn))
      refine iteF' (by rw [ev] <;> rfl) ?_
      refine ⟨_, rfl, a, dx, fs, _, _, _, rfl, S4 _ _ ha, S4 _ _ hd, .own _, C.opn, _, rfl, ?_⟩
      refine iteF ⟨_, rfl, a, dx, fs, _, _, _, rfl, S4 _ _ ha, S4 _ _ hd, .ty _, C.lke, _, rfl, ?_⟩
      refine iteF ?_
      refine ⟨_, rfl, a, dx, fs, _, _, _, rfl, S4 _ _ ha, S4 _ _ hd, .ty _, C.val, _, rfl, _, rfl, ?_⟩
      refine iteT ⟨_, rfl, a, dx, fs, _, _, _, rfl, S4 _ _ ha, S4 _ _ hd, .ty _, C.key, _, rfl, ?_⟩
      exact k _ S4
end
end K84

set_option Elab.async false
set_option maxRecDepth 100000
set_option maxHeartbeats 4000000
set_option linter.all false
namespace K84
open PySem PySem.Spec PyProof.Rows L2
/-- a text, a tuple of ints, an int -/
def spInputs (K : PySem.W.Frag) : Sp := fun vs H Q _ => ∃ (z : Str) (st : Addr) (ns : List Int) (i : Int), vs = [.str z, .ref st, .int i] ∧ H st = some (.tup (ns.map V.int)) ∧ ns.length ≤ 100 ∧ ∀ H', Same H H' → Q (.bl true) H'
section
variable {K : PySem.W.Frag} {n j i : Nat} {a : Addr} {fns : List Str} {fs : List (Str × V)} {ws : List V} {σ : L2.St} {H : Hp} {Q : Bool → Hp → Prop} {D : Ends} {rest tt : TT}
theorem ErrAt.same {H H' : Hp} (S : Same H H') (e : ErrAt K H n a fs) : ErrAt K H' n a fs := by
  obtain ⟨dx, h1, h2⟩ := e
  exact ⟨dx, S _ _ h1, S _ _ h2⟩
/-- a new error's heap -/
theorem new_same {H H' : Hp} {dx : Addr} (na : H a = none) (nd : H dx = none) (e : ∀ b, b ≠ a → b ≠ dx → H' b = H b) : Same H H' := fun b o h => by
  rw [e b (ne_of_none h na) (ne_of_none h nd)]
  exact h
theorem two_errs {ta tb : TA} {R : It → Hp → Prop} (hw : ws.length = fns.length) (ha : ∀ (H' : Hp) (R : List V → Hp → Prop), R ws H' → ta σ H' R) (hb : ∀ (H' : Hp) (R : List V → Hp → Prop), R ws H' → tb σ H' R)
    (h : ∀ (l a b : Addr) (H' : Hp), Same H H' → H' l = some (.lst [.ref a, .ref b]) → ErrAt K H' n a (fns.zip ws).reverse → ErrAt K H' n b (fns.zip ws).reverse → R (Itl K l) H') :
    iList K (tLst (tCons (tNew (C_ K n) fns ta) (tCons (tNew (C_ K n) fns tb) tNil))) σ H R := by
  refine ha _ _ ⟨hw, fun a dx H1 na nd ne e1 e2 e3 => ?_⟩
  have S1 := new_same na nd e3
  refine hb _ _ ⟨hw, fun b dy H2 nb ny nf f1 f2 f3 => ?_⟩
  have S2 := new_same nb ny f3
  refine ⟨by show 2 ≤ sizeLine; decide, fun l nl => ⟨l, rfl, ⟨_, SqL.of upd_same⟩, ?_⟩⟩
  have S3 : Same H2 _ := Same.new (o := .lst [.ref a, .ref b]) nl
  exact h l a b _ ((S1.trans S2).trans S3) upd_same (ErrAt.same (S2.trans S3) ⟨dx, e2, e1⟩) (ErrAt.same S3 ⟨dy, f2, f1⟩)
/-- a loop over two errors of a class, whose turns find nothing -/
theorem loop2 {ta tb : TA} (v0 : Option V) (hσ : σ = σ.set j v0) (hw : ws.length = fns.length) (ha : ∀ (H' : Hp) (R : List V → Hp → Prop), R ws H' → ta σ H' R) (hb : ∀ (H' : Hp) (R : List V → Hp → Prop), R ws H' → tb σ H' R)
    (ht : ∀ (a : Addr) (H' : Hp), Same H H' → ErrAt K H' n a (fns.zip ws).reverse → ∀ Q : Bool → Hp → Prop, (∀ H'', Same H' H'' → Q false H'') → tt (σ.set j (some (.ref a))) H' Q)
    (hn : ∀ (v : Option V) (H' : Hp), Same H H' → D.nx (σ.set j v) H') :
    tFor (iList K (tLst (tCons (tNew (C_ K n) fns ta) (tCons (tNew (C_ K n) fns tb) tNil)))) (gName j) (tIfS tt (tRet (tC (.bl false))) tNext) D σ H := by
  refine two_errs hw ha hb fun l a b H1 S1 hl ea eb => ?_
  refine for_list (xs := [.ref a, .ref b]) (fun _ σ' H' => Same H1 H' ∧ ∃ v, σ' = σ.set j v) ⟨Same.refl _, v0, hσ⟩ (fun _ _ H' _ p => SqL.of (p.1 _ _ hl)) (fun k x σ' H' hx p => ?_) (fun σ' H' p => ?_)
  · obtain ⟨S, v, rfl⟩ := p
    have key : ∀ c, ErrAt K H1 n c (fns.zip ws).reverse → gName j (.ref c) (σ.set j v) H' fun σ2 H2 => tIfS tt (tRet (tC (.bl false))) tNext { D with nx := fun σ' H' => Same H1 H' ∧ ∃ v, σ' = σ.set j v, ct := fun σ' H' => Same H1 H' ∧ ∃ v, σ' = σ.set j v, bk := D.nx } σ2 H2 := fun c ec => by
      show tIfS tt _ _ _ ((σ.set j v).set j (some (.ref c))) H'
      rw [List.set_set]
      refine ht c H' (S1.trans S) (ec.same S) _ fun H2 S2 => iteF ?_
      exact ⟨S.trans S2, _, rfl⟩
    match k, hx with
    | 0, hx => cases hx; exact key a ea
    | 1, hx => cases hx; exact key b eb
    | k + 2, hx => simp at hx
  · obtain ⟨S, v, rfl⟩ := p
    exact hn v H' (S1.trans S)
theorem loop2s {ta tb : TA} {rs : TS} (v0 : Option V) (hσ : σ = σ.set j v0) (hw : ws.length = fns.length) (ha : ∀ (H' : Hp) (R : List V → Hp → Prop), R ws H' → ta σ H' R) (hb : ∀ (H' : Hp) (R : List V → Hp → Prop), R ws H' → tb σ H' R)
    (ht : ∀ (a : Addr) (H' : Hp), Same H H' → ErrAt K H' n a (fns.zip ws).reverse → ∀ Q : Bool → Hp → Prop, (∀ H'', Same H' H'' → Q false H'') → tt (σ.set j (some (.ref a))) H' Q)
    (hn : ∀ (v : Option V) (H' : Hp), Same H H' → rs D (σ.set j v) H') :
    tSeq (tFor (iList K (tLst (tCons (tNew (C_ K n) fns ta) (tCons (tNew (C_ K n) fns tb) tNil)))) (gName j) (tIfS tt (tRet (tC (.bl false))) tNext)) rs D σ H :=
  loop2 (D := { D with nx := rs D }) v0 hσ hw ha hb ht hn
/-- fits finds nothing -/
theorem t_fits (hj : σ[j]? = some (some (.ref a))) (hn : n < 10) (e : ErrAt K H n a fs) (h : ∀ H', Same H H' → rest σ H' Q) : tOr (tNot (tB (tCall (spFits K) [] E0 (tCons (tVar j) (tCons (tC (.int n)) tNil))))) rest σ H Q :=
  ⟨_, hj, a, n, fs, rfl, hn, e, fun H' S => ⟨_, rfl, iteF (h H' S)⟩⟩
/-- a field is what it should be -/
theorem t_field {f : Str} {v : V} (hj : σ[j]? = some (some (.ref a))) (e : ErrAt K H n a fs) (hf : fs.lookup f = some v) (hi : σ[i]? = some (some v)) (hs : scal v v = true) (h : Q false H) :
    tTest (tOp rNe (tEf (C_ K n) f (tVar j)) (tVar i)) σ H Q := by
  obtain ⟨dx, h1, h2⟩ := e
  refine ⟨_, hj, a, dx, fs, v, rfl, h1, h2, hf, _, hi, hs, _, rfl, ?_⟩
  rw [decide_eq_true rfl]
  exact h
theorem ints_lay : ∀ ns : List Int, PyData.canLayAll0 (ns.map .int) = true
  | [] => by simp [PyData.canLayAll0]
  | n :: r => by
    rw [List.map_cons, PyData.canLayAll0, ints_lay r]
    simp [PyData.canLay0]
theorem ints_depth : ∀ ns : List Int, PyData.depthAll (ns.map .int) ≤ 1
  | [] => by simp [PyData.depthAll]
  | n :: r => by
    have := ints_depth r
    simp [PyData.depthAll, PyData.depth]
    omega
theorem ints_shaped (ns : List Int) (hl : ns.length ≤ 100) : SeqAt.shaped (.tuple (ns.map .int)) = true := by
  have d := ints_depth ns
  unfold SeqAt.shaped
  rw [Bool.and_eq_true]
  refine ⟨?_, decide_eq_true ?_⟩
  · rw [PyData.canLay0]
    exact ints_lay ns
  · rw [PyData.depth]
    omega
theorem dp_ints {H : Hp} : ∀ ns : List Int, DpAll K H (ns.map V.int) (ns.map .int)
  | [] => .nil
  | i :: ns => .cons (.int i) (dp_ints ns)
theorem t_path {f : Str} {st : Addr} {ns : List Int} (hj : σ[j]? = some (some (.ref a))) (e : ErrAt K H n a fs) (hf : fs.lookup f = some (.ref st)) (hi : σ[i]? = some (some (.ref st))) (hst : H st = some (.tup (ns.map V.int))) (hl : ns.length ≤ 100) (h : Q false H) :
    tTest (tOp (rNeD K) (tEf (C_ K n) f (tVar j)) (tVar i)) σ H Q := by
  obtain ⟨dx, h1, h2⟩ := e
  have sh := ints_shaped ns hl
  have d : Dp K H (.ref st) (.tuple (ns.map .int)) := .tup (SqT.of hst) (dp_ints ns)
  refine ⟨_, hj, a, dx, fs, _, rfl, h1, h2, hf, _, hi, _, _, d, d, sh, sh, _, rfl, ?_⟩
  rw [SeqAt.eqv_refl _ (SeqAt.canLay_of_shaped sh)]
  exact h
end
section
variable {P : Program} {w : World} {K : PySem.W.Frag} {mg : Str → Option Value} {base : Heap}
theorem ok_inputs {f : Addr} {fd : FuncData} (F : FnP K "_law_inputs_fit" s__law_inputs_fit f fd) (T : Names K mg) (G_fits : Def P w K mg base CX0 2 "_law_fits" ["_law_error", "_law_number"] (spFits K))
    (E_InvalidProgram : ErrDef P w K mg base CX0 1 "InvalidProgram" (C_ K 0) ["self", "part", "path"] ["part", "path"]) (E_InvalidHistory : ErrDef P w K mg base CX0 1 "InvalidHistory" (C_ K 1) ["self", "at"] ["at"]) (E_InvalidText : ErrDef P w K mg base CX0 1 "InvalidText" (C_ K 2) ["self", "line"] ["line"]) (E_InvalidArgument : ErrDef P w K mg base CX0 1 "InvalidArgument" (C_ K 3) ["self", "part"] ["part"]) (E_InvalidNote : ErrDef P w K mg base CX0 1 "InvalidNote" (C_ K 4) ["self", "at"] ["at"]) :
    FnOk P w K mg base CX0 3 f fd ["_law_text", "_law_steps", "_law_index"] (spInputs K) := by
  refine F.ok sc__law_inputs_fit (fun vs H Q E h => ?_) (fun cdv A outer s H vs Q E hr h => ?_)
  · obtain ⟨z, st, ns, i, rfl, _⟩ := h
    rfl
  · obtain ⟨z, st, ns, i, rfl, hst, hl, k⟩ := h
    refine ⟨_, PSs.nox (pss_cons (ps_for PassesOwn.never rfl (pi_list (pe_lst (pa_cons (pe_err E_InvalidProgram (hr.mono (by decide)) (by rfl) pass0 (pa_cons (pv 0) (pa_cons (pv 1) pa_nil))) (pa_cons (pe_errK E_InvalidProgram (hr.mono (by decide)) (by rfl) pass0 (pk_cons (pv 1) (pk_cons (pv 0) pk_nil))) pa_nil)))) (pg_name (i := 3) sc__law_inputs_fit.nd rfl (.inl rfl)) (pss_one (ps_if (PW.pt (pw_or (pt_not (pt_val (pe_fn G_fits (hr.mono (by decide)) (by rfl) pass0 (pa_cons (pv 3) (pa_cons pe_int pa_nil))))) (pw_or (pt_cmpR op_ne (pe_ef (T.cl 0 (by decide)).err (T.na_InvalidProgram_part) (pv 3)) (pv 0) (nomark _)) (pw_or1 (pt_cmpR (op_neD hr.units) (pe_ef (T.cl 0 (by decide)).err (T.na_InvalidProgram_path) (pv 3)) (pv 1) (nomark _)))))) (pss_one (ps_ret pe_bl)) pss_nil)))
      (pss_cons (ps_for PassesOwn.never rfl (pi_list (pe_lst (pa_cons (pe_err E_InvalidHistory (hr.mono (by decide)) (by rfl) pass0 (pa_cons (pv 2) pa_nil)) (pa_cons (pe_errK E_InvalidHistory (hr.mono (by decide)) (by rfl) pass0 (pk_cons (pv 2) pk_nil)) pa_nil)))) (pg_name (i := 3) sc__law_inputs_fit.nd rfl (.inl rfl)) (pss_one (ps_if (PW.pt (pw_or (pt_not (pt_val (pe_fn G_fits (hr.mono (by decide)) (by rfl) pass0 (pa_cons (pv 3) (pa_cons pe_int pa_nil))))) (pw_or1 (pt_cmpR op_ne (pe_ef (T.cl 1 (by decide)).err (T.na_InvalidHistory_at) (pv 3)) (pv 2) (nomark _))))) (pss_one (ps_ret pe_bl)) pss_nil)))
      (pss_cons (ps_for PassesOwn.never rfl (pi_list (pe_lst (pa_cons (pe_err E_InvalidText (hr.mono (by decide)) (by rfl) pass0 (pa_cons (pv 2) pa_nil)) (pa_cons (pe_errK E_InvalidText (hr.mono (by decide)) (by rfl) pass0 (pk_cons (pv 2) pk_nil)) pa_nil)))) (pg_name (i := 3) sc__law_inputs_fit.nd rfl (.inl rfl)) (pss_one (ps_if (PW.pt (pw_or (pt_not (pt_val (pe_fn G_fits (hr.mono (by decide)) (by rfl) pass0 (pa_cons (pv 3) (pa_cons pe_int pa_nil))))) (pw_or1 (pt_cmpR op_ne (pe_ef (T.cl 2 (by decide)).err (T.na_InvalidText_line) (pv 3)) (pv 2) (nomark _))))) (pss_one (ps_ret pe_bl)) pss_nil)))
      (pss_cons (ps_for PassesOwn.never rfl (pi_list (pe_lst (pa_cons (pe_err E_InvalidArgument (hr.mono (by decide)) (by rfl) pass0 (pa_cons (pv 0) pa_nil)) (pa_cons (pe_errK E_InvalidArgument (hr.mono (by decide)) (by rfl) pass0 (pk_cons (pv 0) pk_nil)) pa_nil)))) (pg_name (i := 3) sc__law_inputs_fit.nd rfl (.inl rfl)) (pss_one (ps_if (PW.pt (pw_or (pt_not (pt_val (pe_fn G_fits (hr.mono (by decide)) (by rfl) pass0 (pa_cons (pv 3) (pa_cons pe_int pa_nil))))) (pw_or1 (pt_cmpR op_ne (pe_ef (T.cl 3 (by decide)).err (T.na_InvalidArgument_part) (pv 3)) (pv 0) (nomark _))))) (pss_one (ps_ret pe_bl)) pss_nil)))
      (pss_cons (ps_for PassesOwn.never rfl (pi_list (pe_lst (pa_cons (pe_err E_InvalidNote (hr.mono (by decide)) (by rfl) pass0 (pa_cons (pv 2) pa_nil)) (pa_cons (pe_errK E_InvalidNote (hr.mono (by decide)) (by rfl) pass0 (pk_cons (pv 2) pk_nil)) pa_nil)))) (pg_name (i := 3) sc__law_inputs_fit.nd rfl (.inl rfl)) (pss_one (ps_if (PW.pt (pw_or (pt_not (pt_val (pe_fn G_fits (hr.mono (by decide)) (by rfl) pass0 (pa_cons (pv 3) (pa_cons pe_int pa_nil))))) (pw_or1 (pt_cmpR op_ne (pe_ef (T.cl 4 (by decide)).err (T.na_InvalidNote_at) (pv 3)) (pv 2) (nomark _))))) (pss_one (ps_ret pe_bl)) pss_nil)))
      (pss_one (ps_ret pe_bl))))))), ?_⟩
    refine loop2s (K := K) (fns := ["part", "path"]) (n := 0) (ws := [.str z, .ref st]) none rfl rfl (fun H R q => ⟨_, rfl, _, rfl,  q⟩) (fun H R q => ⟨_, rfl, _, rfl,  rfl, q⟩) (fun a H1 S e Q1 q => ?_) (fun v0 H0 T0 => ?_)
    · refine t_fits rfl (by decide) e fun H2 S2 => ?_
      refine t_field (v := .str z) rfl (e.same S2) (by rfl) rfl rfl (iteF ?_)
      exact t_path rfl (e.same S2) (by rfl) rfl (S2 _ _ (S _ _ hst)) hl (q _ S2)
    show tSeq _ _ _ _ _
    refine loop2s (K := K) (fns := ["at"]) (n := 1) (ws := [.int i]) v0 rfl rfl (fun H R q => ⟨_, rfl,  q⟩) (fun H R q => ⟨_, rfl,  rfl, q⟩) (fun a H1 S e Q1 q => ?_) (fun v1 H1 T1 => ?_)
    · refine t_fits rfl (by decide) e fun H2 S2 => ?_
      exact t_field (v := .int i) rfl (e.same S2) (by rfl) rfl rfl (q _ S2)
    show tSeq _ _ _ _ _
    refine loop2s (K := K) (fns := ["line"]) (n := 2) (ws := [.int i]) v1 rfl rfl (fun H R q => ⟨_, rfl,  q⟩) (fun H R q => ⟨_, rfl,  rfl, q⟩) (fun a H1 S e Q1 q => ?_) (fun v2 H2 T2 => ?_)
    · refine t_fits rfl (by decide) e fun H2 S2 => ?_
      exact t_field (v := .int i) rfl (e.same S2) (by rfl) rfl rfl (q _ S2)
    show tSeq _ _ _ _ _
    refine loop2s (K := K) (fns := ["part"]) (n := 3) (ws := [.str z]) v2 rfl rfl (fun H R q => ⟨_, rfl,  q⟩) (fun H R q => ⟨_, rfl,  rfl, q⟩) (fun a H1 S e Q1 q => ?_) (fun v3 H3 T3 => ?_)
    · refine t_fits rfl (by decide) e fun H2 S2 => ?_
      exact t_field (v := .str z) rfl (e.same S2) (by rfl) rfl rfl (q _ S2)
    show tSeq _ _ _ _ _
    refine loop2s (K := K) (fns := ["at"]) (n := 4) (ws := [.int i]) v3 rfl rfl (fun H R q => ⟨_, rfl,  q⟩) (fun H R q => ⟨_, rfl,  rfl, q⟩) (fun a H1 S e Q1 q => ?_) (fun v4 H4 T4 => ?_)
    · refine t_fits rfl (by decide) e fun H2 S2 => ?_
      exact t_field (v := .int i) rfl (e.same S2) (by rfl) rfl rfl (q _ S2)
    exact k _ ((((T0.trans T1).trans T2).trans T3).trans T4)
end
end K84

set_option Elab.async false
set_option maxRecDepth 100000
set_option maxHeartbeats 4000000
set_option linter.all false
namespace K84
open PySem PySem.Spec PyProof.Rows L2
def spLaw (K : PySem.W.Frag) : Sp := fun vs H Q _ => ∃ (a : Addr) (ns : List Int), vs = [.ref a] ∧ SqL K H a (ns.map V.int) ∧ ns.length ≤ 63 ∧ ∀ H', Q (.bl true) H'
theorem menu6 {d : Int} (h0 : 0 ≤ d) (h6 : d < 6) : ∃ z : Str, atI [V.str "rows", V.str "asks", V.str "free", V.str "long", V.str "other", V.str "zz"] d = some (.str z) := by
  have : d = 0 ∨ d = 1 ∨ d = 2 ∨ d = 3 ∨ d = 4 ∨ d = 5 := by omega
  rcases this with rfl | rfl | rfl | rfl | rfl | rfl <;> exact ⟨_, rfl⟩
section
variable {P : Program} {w : World} {K : PySem.W.Frag} {mg : Str → Option Value} {base : Heap}
theorem ok_law {f : Addr} {fd : FuncData} (F : FnP K "law" s_law f fd) (T : Names K mg) (G_pool : Def P w K mg base CX0 1 "_law_pool" ["_law_script", "_law_number"] (spPool K))
    (G_draw : Def P w K mg base CX0 1 "_law_draw" ["_law_pool_here", "_law_many"] spDraw) (G_fits : Def P w K mg base CX0 2 "_law_fits" ["_law_error", "_law_number"] (spFits K))
    (G_inputs_fit : Def P w K mg base CX0 3 "_law_inputs_fit" ["_law_text", "_law_steps", "_law_index"] (spInputs K))
    (E_Falls : ErrDef P w K mg base CX0 1 "Falls" (C_ K 5) ["self", "word", "path"] ["word", "path"])
    (E_Breaks : ErrDef P w K mg base CX0 1 "Breaks" (C_ K 6) ["self", "at", "word"] ["at", "word"])
    (E_NoRun : ErrDef P w K mg base CX0 1 "NoRun" (C_ K 7) ["self", "name"] ["name"])
    (E_Taken : ErrDef P w K mg base CX0 1 "Taken" (C_ K 8) ["self", "name"] ["name"])
    (E_LimitExceeded : ErrDef P w K mg base CX0 1 "LimitExceeded" (C_ K 9) ["self", "limit"] ["limit"]) :
    FnOk P w K mg base CX0 4 f fd ["_law_script"] (spLaw K) := by
  refine F.ok sc_law (fun vs H Q E h => ?_) (fun cdv A outer s H vs Q E hr h => ?_)
  · obtain ⟨a, ns, rfl, _⟩ := h
    rfl
  · obtain ⟨a, ns, rfl, hs, hl, k⟩ := h
    refine ⟨_, PSs.nox (pss_cons (ps_set (i := 1) sc_law.nd rfl (.inr rfl) (pe_fn G_pool (hr.mono (by decide)) (by rfl) pass0 (pa_cons (pv 0) (pa_cons pe_int pa_nil))))
      (pss_cons (ps_set (i := 2) sc_law.nd rfl (.inl rfl) (pe_ix ix_list (pe_lst (pa_cons pe_str (pa_cons pe_str (pa_cons pe_str (pa_cons pe_str (pa_cons pe_str (pa_cons pe_str pa_nil))))))) (pe_fn G_draw (hr.mono (by decide)) (by rfl) pass0 (pa_cons (pv 1) (pa_cons pe_int pa_nil))) (fun _ _ => rfl)))
      (pss_cons (ps_set (i := 3) sc_law.nd rfl (.inl rfl) (pe_callTy call_tuple_of (by rfl) T.b_tuple (by decide +kernel) (pa_cons (pe_lc (own := [("_law_count", 6)]) (g := (gName 6)) (by rfl) sc_law.nd (pi_range1 (by rfl) T.b_range (pa_cons (pe_op op_add pe_int (pe_op op_mul pe_int (pe_fn G_draw (hr.mono (by decide)) (by rfl) pass0 (pa_cons (pv 1) (pa_cons pe_int pa_nil))))) pa_nil)) (blkOk_by (N := n_law) (sc := defScope s_law) (by decide +kernel)) (fun _ _ _ _ _ => (pg_name (i := 6) sc_law.nd rfl (.inl rfl))) (fun _ _ _ _ _ => pts_nil) (fun _ _ _ _ _ => (pe_fn G_draw (hr.mono (by decide)) (by rfl) pass0 (pa_cons (pv 1) (pa_cons pe_int pa_nil))))) pa_nil)))
      (pss_cons (ps_set (i := 4) sc_law.nd rfl (.inl rfl) (pe_op op_sub (pe_fn G_draw (hr.mono (by decide)) (by rfl) pass0 (pa_cons (pv 1) (pa_cons pe_int pa_nil))) pe_int))
      (pss_cons (ps_if (pt_not (pt_val (pe_fn G_inputs_fit (hr.mono (by decide)) (by rfl) pass0 (pa_cons (pv 2) (pa_cons (pv 3) (pa_cons (pv 4) pa_nil)))))) (pss_one (ps_ret pe_bl)) pss_nil)
      (pss_cons (ps_for PassesOwn.never rfl (pi_list (pe_lst (pa_cons (pe_err E_Falls (hr.mono (by decide)) (by rfl) pass0 (pa_cons (pv 2) (pa_cons (pv 3) pa_nil))) (pa_cons (pe_errK E_Falls (hr.mono (by decide)) (by rfl) pass0 (pk_cons (pv 3) (pk_cons (pv 2) pk_nil))) pa_nil)))) (pg_name (i := 5) sc_law.nd rfl (.inl rfl)) (pss_one (ps_if (PW.pt (pw_or (pt_not (pt_val (pe_fn G_fits (hr.mono (by decide)) (by rfl) pass0 (pa_cons (pv 5) (pa_cons pe_int pa_nil))))) (pw_or (pt_cmpR op_ne (pe_ef (T.cl 5 (by decide)).err (T.na_Falls_word) (pv 5)) (pv 2) (nomark _)) (pw_or1 (pt_cmpR (op_neD hr.units) (pe_ef (T.cl 5 (by decide)).err (T.na_Falls_path) (pv 5)) (pv 3) (nomark _)))))) (pss_one (ps_ret pe_bl)) pss_nil)))
      (pss_cons (ps_for PassesOwn.never rfl (pi_list (pe_lst (pa_cons (pe_err E_Breaks (hr.mono (by decide)) (by rfl) pass0 (pa_cons (pv 4) (pa_cons (pv 2) pa_nil))) (pa_cons (pe_errK E_Breaks (hr.mono (by decide)) (by rfl) pass0 (pk_cons (pv 2) (pk_cons (pv 4) pk_nil))) pa_nil)))) (pg_name (i := 5) sc_law.nd rfl (.inl rfl)) (pss_one (ps_if (PW.pt (pw_or (pt_not (pt_val (pe_fn G_fits (hr.mono (by decide)) (by rfl) pass0 (pa_cons (pv 5) (pa_cons pe_int pa_nil))))) (pw_or (pt_cmpR op_ne (pe_ef (T.cl 6 (by decide)).err (T.na_Breaks_word) (pv 5)) (pv 2) (nomark _)) (pw_or1 (pt_cmpR op_ne (pe_ef (T.cl 6 (by decide)).err (T.na_Breaks_at) (pv 5)) (pv 4) (nomark _)))))) (pss_one (ps_ret pe_bl)) pss_nil)))
      (pss_cons (ps_for PassesOwn.never rfl (pi_list (pe_lst (pa_cons (pe_err E_NoRun (hr.mono (by decide)) (by rfl) pass0 (pa_cons (pv 2) pa_nil)) (pa_cons (pe_errK E_NoRun (hr.mono (by decide)) (by rfl) pass0 (pk_cons (pv 2) pk_nil)) pa_nil)))) (pg_name (i := 5) sc_law.nd rfl (.inl rfl)) (pss_one (ps_if (PW.pt (pw_or (pt_not (pt_val (pe_fn G_fits (hr.mono (by decide)) (by rfl) pass0 (pa_cons (pv 5) (pa_cons pe_int pa_nil))))) (pw_or1 (pt_cmpR op_ne (pe_ef (T.cl 7 (by decide)).err (T.na_NoRun_name) (pv 5)) (pv 2) (nomark _))))) (pss_one (ps_ret pe_bl)) pss_nil)))
      (pss_cons (ps_for PassesOwn.never rfl (pi_list (pe_lst (pa_cons (pe_err E_Taken (hr.mono (by decide)) (by rfl) pass0 (pa_cons (pv 2) pa_nil)) (pa_cons (pe_errK E_Taken (hr.mono (by decide)) (by rfl) pass0 (pk_cons (pv 2) pk_nil)) pa_nil)))) (pg_name (i := 5) sc_law.nd rfl (.inl rfl)) (pss_one (ps_if (PW.pt (pw_or (pt_not (pt_val (pe_fn G_fits (hr.mono (by decide)) (by rfl) pass0 (pa_cons (pv 5) (pa_cons pe_int pa_nil))))) (pw_or1 (pt_cmpR op_ne (pe_ef (T.cl 8 (by decide)).err (T.na_Taken_name) (pv 5)) (pv 2) (nomark _))))) (pss_one (ps_ret pe_bl)) pss_nil)))
      (pss_cons (ps_set (i := 5) sc_law.nd rfl (.inl rfl) (pe_errK E_LimitExceeded (hr.mono (by decide)) (by rfl) pass0 (pk_cons (pv 4) pk_nil)))
      (pss_one (ps_ret (pe_and (pe_fn G_fits (hr.mono (by decide)) (by rfl) pass0 (pa_cons (pv 5) (pa_cons pe_int pa_nil))) (pe_and (pe_cmpR op_eq (pe_ef (T.cl 9 (by decide)).err (T.na_LimitExceeded_limit) (pv 5)) (pv 4) (nomark _)) (pe_one (pe_cmpR op_eq (pe_ef (T.cl 9 (by decide)).err (T.na_LimitExceeded_limit) (pe_err E_LimitExceeded (hr.mono (by decide)) (by rfl) pass0 (pa_cons (pe_op op_add (pv 4) pe_int) pa_nil))) (pe_op op_add (pv 4) pe_int) (nomark _))))))))))))))))), ?_⟩
    refine ⟨_, rfl, a, ns, 0, rfl, hs, by decide, hl, fun p b s c np => ?_⟩
    -- the text
    refine ⟨by show 6 ≤ sizeLine; decide, fun l nl => ?_⟩
    have nlp : p ≠ l := ne_of_none upd_same nl
    refine ⟨_, rfl, p, 6, b, s, c, rfl, by rw [upd_ne nlp]; exact upd_same, by decide, by decide, fun d b1 s1 c1 d0 d6 => ?_⟩
    obtain ⟨z, hz⟩ := menu6 d0 d6
    refine ⟨l, _, d, _, rfl, rfl, SqL.of (by rw [upd_ne nlp.symm]; exact upd_same), hz, ?_⟩
    generalize e1 : upd (upd (upd H p _) l _) p _ = H1
    have hp1 : H1 p = some (.dK (poolK b1 s1 c1)) := by
      rw [← e1]
      exact upd_same
    -- the steps
    refine ⟨_, rfl, p, 5, _, _, _, rfl, hp1, by decide, by decide, fun d2 b2 s2 c2 d20 d25 => ⟨_, _, rfl, rfl, .inl ⟨by decide, by decide⟩, _, _, rfl, rfl, ?_⟩⟩
    refine ⟨_, rfl, by omega, by omega, fun D nD => ?_⟩
    generalize e2 : upd H1 p _ = H2 at nD ⊢
    have hp2 : H2 p = some (.dK (poolK b2 s2 c2)) := by
      rw [← e2]
      exact upd_same
    have npD : p ≠ D := ne_of_none hp2 nD
    refine lc_range (lo := 0) (n := (1 + 2 * d2).toNat) (fun i H' => ∃ (ds : List Int) (b s c : Int), ds.length = i ∧ H' D = some (.lst (ds.map V.int)) ∧ H' p = some (.dK (poolK b s c))) ⟨[], _, _, _, rfl, upd_same, by rw [upd_ne npD]; exact hp2⟩ (fun i H' hi q => ?_) (fun H3 q => ?_)
    · obtain ⟨ds, b3, s3, c3, ld, hD, hp3⟩ := q
      refine ⟨rfl, _, rfl, p, 60, _, _, _, rfl, hp3, by decide, by decide, fun d3 b4 s4 c4 _ _ => ⟨ds.map V.int, by rw [upd_ne npD.symm]; exact hD, ?_, ds ++ [d3], b4, s4, c4, ?_, ?_, ?_⟩⟩
      · rw [List.length_map]
        exact small1000 (by omega)
      · rw [List.length_append, ld] <;> rfl
      · rw [upd_same, List.map_append] <;> rfl
      · rw [upd_ne npD]
        exact upd_same
    obtain ⟨ds, b3, s3, c3, ld, hD, hp3⟩ := q
    have hln : ds.length ≤ 100 := by omega
    refine ⟨D, _, rfl, .inl ⟨SqL.of hD, fun st nst => ?_⟩⟩
    have nps : p ≠ st := ne_of_none hp3 nst
    -- the index
    refine ⟨_, rfl, p, 20000, _, _, _, rfl, by rw [upd_ne nps]; exact hp3, by decide, by decide, fun d4 b4 s4 c4 _ _ => ⟨_, _, rfl, rfl, ?_⟩⟩
    generalize e4 : upd (upd H3 st _) p _ = H4
    have hst : H4 st = some (.tup (ds.map V.int)) := by
      rw [← e4, upd_ne nps.symm]
      exact upd_same

    -- the inputs
    refine ⟨_, rfl, _, rfl, _, rfl, z, st, ds, d4 - 1, rfl, hst, hln, fun H5 S5 => ⟨_, rfl, iteF (st_next (nx_ ?_))⟩⟩
    have hst5 := S5 _ _ hst
    refine loop2s (K := K) (fns := ["word", "path"]) (n := 5) (ws := [.str z, .ref st]) none rfl rfl (fun H R q => ⟨_, rfl, _, rfl,  q⟩) (fun H R q => ⟨_, rfl, _, rfl,  rfl, q⟩) (fun a H1 S e Q1 q => ?_) (fun v5 H5 T5 => ?_)
    · refine t_fits rfl (by decide) e fun H2 S2 => ?_
      refine t_field (v := .str z) rfl (e.same S2) (by rfl) rfl rfl (iteF ?_)
      exact t_path rfl (e.same S2) (by rfl) rfl (S2 _ _ (S _ _ hst5)) hln (q _ S2)
    refine loop2s (K := K) (fns := ["at", "word"]) (n := 6) (ws := [.int (d4 - 1), .str z]) v5 rfl rfl (fun H R q => ⟨_, rfl, _, rfl,  q⟩) (fun H R q => ⟨_, rfl, _, rfl,  rfl, q⟩) (fun a H1 S e Q1 q => ?_) (fun v6 H6 T6 => ?_)
    · refine t_fits rfl (by decide) e fun H2 S2 => ?_
      refine t_field (v := .str z) rfl (e.same S2) (by rfl) rfl rfl (iteF ?_)
      exact t_field (v := .int (d4 - 1)) rfl (e.same S2) (by rfl) rfl rfl (q _ S2)
    refine loop2s (K := K) (fns := ["name"]) (n := 7) (ws := [.str z]) v6 rfl rfl (fun H R q => ⟨_, rfl,  q⟩) (fun H R q => ⟨_, rfl,  rfl, q⟩) (fun a H1 S e Q1 q => ?_) (fun v7 H7 T7 => ?_)
    · refine t_fits rfl (by decide) e fun H2 S2 => ?_
      exact t_field (v := .str z) rfl (e.same S2) (by rfl) rfl rfl (q _ S2)
    refine loop2s (K := K) (fns := ["name"]) (n := 8) (ws := [.str z]) v7 rfl rfl (fun H R q => ⟨_, rfl,  q⟩) (fun H R q => ⟨_, rfl,  rfl, q⟩) (fun a H1 S e Q1 q => ?_) (fun v8 H8 T8 => ?_)
    · refine t_fits rfl (by decide) e fun H2 S2 => ?_
      exact t_field (v := .str z) rfl (e.same S2) (by rfl) rfl rfl (q _ S2)
    -- the last one
    refine ⟨_, rfl, rfl, rfl, fun e dx H9 ne nd nde f1 f2 f3 => ?_⟩
    have E9 : ErrAt K H9 9 e [("limit", .int (d4 - 1))] := ⟨dx, f2, f1⟩
    refine ⟨_, rfl, e, 9, _, rfl, by decide, E9, fun H10 S10 => ⟨_, rfl, iteT ?_⟩⟩
    obtain ⟨dy, g1, g2⟩ := E9.same S10
    refine ⟨_, rfl, e, dy, _, .int (d4 - 1), rfl, g1, g2, by rfl, _, rfl, rfl, _, rfl, iteT' (decide_eq_true rfl) ?_⟩
    refine ⟨_, rfl, _, _, rfl, rfl, rfl, fun e' dz H11 ne' nd' nde' h1 h2 h3 => ?_⟩
    refine ⟨e', dz, _, .int (d4 - 1 + 1), rfl, h2, h1, by rfl, _, rfl, _, _, rfl, rfl, rfl, ?_⟩
    have ed : decide (V.int (d4 - 1 + 1) = V.int (d4 - 1 + 1)) = true := decide_eq_true rfl
    show Q (.bl (decide (V.int (d4 - 1 + 1) = V.int (d4 - 1 + 1)))) H11
    rw [ed]
    exact k H11
end
end K84

set_option Elab.async false
set_option linter.all false
set_option maxRecDepth 100000
set_option maxHeartbeats 0
namespace K84
open PySem PySem.Spec PyProof.Rows L2
/-! ### the head: facts by names, the run -/
abbrev sI0 : Stmt := inClass (top 3) 0
def dI0 : He.DefD := ⟨("InvalidProgram", some "__init__"), "__init__", "InvalidProgram.__init__", defArgs sI0, defBody sI0, defScope sI0, [], []⟩
abbrev sI1 : Stmt := inClass (top 4) 0
def dI1 : He.DefD := ⟨("InvalidHistory", some "__init__"), "__init__", "InvalidHistory.__init__", defArgs sI1, defBody sI1, defScope sI1, [], []⟩
abbrev sI2 : Stmt := inClass (top 5) 0
def dI2 : He.DefD := ⟨("InvalidText", some "__init__"), "__init__", "InvalidText.__init__", defArgs sI2, defBody sI2, defScope sI2, [], []⟩
abbrev sI3 : Stmt := inClass (top 6) 0
def dI3 : He.DefD := ⟨("InvalidArgument", some "__init__"), "__init__", "InvalidArgument.__init__", defArgs sI3, defBody sI3, defScope sI3, [], []⟩
abbrev sI4 : Stmt := inClass (top 7) 0
def dI4 : He.DefD := ⟨("InvalidNote", some "__init__"), "__init__", "InvalidNote.__init__", defArgs sI4, defBody sI4, defScope sI4, [], []⟩
abbrev sI5 : Stmt := inClass (top 9) 0
def dI5 : He.DefD := ⟨("Falls", some "__init__"), "__init__", "Falls.__init__", defArgs sI5, defBody sI5, defScope sI5, [], []⟩
abbrev sI6 : Stmt := inClass (top 10) 0
def dI6 : He.DefD := ⟨("Breaks", some "__init__"), "__init__", "Breaks.__init__", defArgs sI6, defBody sI6, defScope sI6, [], []⟩
abbrev sI7 : Stmt := inClass (top 11) 0
def dI7 : He.DefD := ⟨("NoRun", some "__init__"), "__init__", "NoRun.__init__", defArgs sI7, defBody sI7, defScope sI7, [], []⟩
abbrev sI8 : Stmt := inClass (top 12) 0
def dI8 : He.DefD := ⟨("Taken", some "__init__"), "__init__", "Taken.__init__", defArgs sI8, defBody sI8, defScope sI8, [], []⟩
abbrev sI9 : Stmt := inClass (top 13) 0
def dI9 : He.DefD := ⟨("LimitExceeded", some "__init__"), "__init__", "LimitExceeded.__init__", defArgs sI9, defBody sI9, defScope sI9, [], []⟩
def dPool : He.DefD := ⟨("_law_pool", none), "_law_pool", "_law_pool", defArgs sPool, defBody sPool, defScope sPool, [], []⟩
def dDraw : He.DefD := ⟨("_law_draw", none), "_law_draw", "_law_draw", defArgs sDraw, defBody sDraw, defScope sDraw, [], []⟩
def dAbove : He.DefD := ⟨("_law_above", none), "_law_above", "_law_above", defArgs s__law_above, defBody s__law_above, defScope s__law_above, [], []⟩
def dFits : He.DefD := ⟨("_law_fits", none), "_law_fits", "_law_fits", defArgs s__law_fits, defBody s__law_fits, defScope s__law_fits, [], []⟩
def dInputs : He.DefD := ⟨("_law_inputs_fit", none), "_law_inputs_fit", "_law_inputs_fit", defArgs s__law_inputs_fit, defBody s__law_inputs_fit, defScope s__law_inputs_fit, [], []⟩
def dLaw : He.DefD := ⟨("law", none), "law", "law", defArgs s_law, defBody s_law, defScope s_law, [], []⟩
def fn : List He.DefD := [dI0, dI1, dI2, dI3, dI4, dI5, dI6, dI7, dI8, dI9, dPool, dDraw, dAbove, dFits, dInputs, dLaw]
def fa : List He.Fa := [.glo "InvalidProgram", .glo "InvalidHistory", .glo "InvalidText", .glo "InvalidArgument", .glo "InvalidNote", .glo "Falls", .glo "Breaks", .glo "NoRun", .glo "Taken", .glo "LimitExceeded", .glo "InputError", .glo "RunError", .glo "OpenError", .glo "_law_pool", .glo "_law_draw", .glo "_law_above", .glo "_law_fits", .glo "_law_inputs_fit", .glo "law", .free "isinstance", .free "LookupError", .free "ValueError", .free "KeyError", .free "int", .free "len", .free "range", .free "tuple", .noat "InvalidProgram" "part", .noat "InvalidProgram" "path", .noat "InvalidHistory" "at", .noat "InvalidText" "line", .noat "InvalidArgument" "part", .noat "InvalidNote" "at", .noat "Falls" "word", .noat "Falls" "path", .noat "Breaks" "at", .noat "Breaks" "word", .noat "NoRun" "name", .noat "Taken" "name", .noat "LimitExceeded" "limit"]
def exN (K : PySem.W.Frag) (n : Nat) : Bool :=
  He.errB K (C_ K n) && (He.iniB K (C_ K n) && (decide (nm.map (fun x => PySem.W.kitOne K (.ref (C_ K n)) (.ref (He.ga K x))) = (due n).map some) &&
  (decide (PySem.W.kitOne K (.ref (C_ K n)) (.ref (He.ga K "OpenError")) = some true) && (decide (PySem.W.kitOne K (.ref (C_ K n)) (.type "LookupError") = some true) &&
  (decide (PySem.W.kitOne K (.ref (C_ K n)) (.type "ValueError") = some false) && decide (PySem.W.kitOne K (.ref (C_ K n)) (.type "KeyError") = some false))))))
def ex (K : PySem.W.Frag) : Bool := (List.range 10).all (exN K)
theorem ex_at {K : PySem.W.Frag} (h : ex K = true) (n : Nat) (hn : n < 10) : exN K n = true := List.all_eq_true.mp h n (List.mem_range.mpr hn)
theorem ex_cls {K : PySem.W.Frag} (h : ex K = true) (n : Nat) (hn : n < 10) : ClsAt K n := by
  obtain ⟨h1, h⟩ := He.ba (ex_at h n hn)
  obtain ⟨_, h⟩ := He.ba h
  obtain ⟨h3, h⟩ := He.ba h
  obtain ⟨h4, h⟩ := He.ba h
  obtain ⟨h5, h⟩ := He.ba h
  obtain ⟨h6, h7⟩ := He.ba h
  exact ⟨He.errB_ok h1, of_decide_eq_true h3, of_decide_eq_true h4, of_decide_eq_true h5, of_decide_eq_true h6, of_decide_eq_true h7⟩
theorem ex_ini {K : PySem.W.Frag} (h : ex K = true) (n : Nat) (hn : n < 10) : He.iniB K (C_ K n) = true := by
  obtain ⟨_, h⟩ := He.ba (ex_at h n hn)
  exact (He.ba h).1
abbrev R : PySem.W.OpenRow := PySem.W.OpenLaw.row PySem.Challenge.rw_openruns_k84_errors_made_by_name
abbrev hk : PySem.W.Hook := He.hookX 5 fa fn ex
def ob (s : PySem.W.SharedT) : He.AlX := He.obX 5 fa fn ex s
def loose : List Str := ["OpenError", "InputError", "InvalidProgram", "InvalidHistory", "InvalidText", "InvalidArgument", "InvalidNote", "RunError", "Falls", "Breaks", "NoRun", "Taken", "LimitExceeded", "_law_pool", "_law_draw", "_law_above", "_law_fits", "_law_inputs_fit"]
theorem run (w : World) : HandSHeadRun.RunEq R (PySem.W.view R.prog [20]) hk ob 6000 loose w := by
  intro os
  kernel_rfl
end K84

set_option Elab.async false
set_option linter.all false
set_option maxRecDepth 100000
set_option maxHeartbeats 0
namespace K84
open PySem PySem.Spec PyProof.Rows L2
section
variable {P : Program} {w : World} {K : PySem.W.Frag} {h base : Heap} {mg : Str → Option Value}
theorem names (X : K.In h) (G : h.Ns mainGlobals mg) (e : ex K = true) (c : He.SaysD fa fn K) : Names K mg :=
  { c_InvalidProgram := He.glo_ok X G (c.fact 0 (f := .glo "InvalidProgram") rfl)
    c_InvalidHistory := He.glo_ok X G (c.fact 1 (f := .glo "InvalidHistory") rfl)
    c_InvalidText := He.glo_ok X G (c.fact 2 (f := .glo "InvalidText") rfl)
    c_InvalidArgument := He.glo_ok X G (c.fact 3 (f := .glo "InvalidArgument") rfl)
    c_InvalidNote := He.glo_ok X G (c.fact 4 (f := .glo "InvalidNote") rfl)
    c_Falls := He.glo_ok X G (c.fact 5 (f := .glo "Falls") rfl)
    c_Breaks := He.glo_ok X G (c.fact 6 (f := .glo "Breaks") rfl)
    c_NoRun := He.glo_ok X G (c.fact 7 (f := .glo "NoRun") rfl)
    c_Taken := He.glo_ok X G (c.fact 8 (f := .glo "Taken") rfl)
    c_LimitExceeded := He.glo_ok X G (c.fact 9 (f := .glo "LimitExceeded") rfl)
    c_InputError := He.glo_ok X G (c.fact 10 (f := .glo "InputError") rfl)
    c_RunError := He.glo_ok X G (c.fact 11 (f := .glo "RunError") rfl)
    c_OpenError := He.glo_ok X G (c.fact 12 (f := .glo "OpenError") rfl)
    b_isinstance := He.free_ok X G (c.fact 19 (f := .free "isinstance") rfl)
    b_LookupError := He.free_ok X G (c.fact 20 (f := .free "LookupError") rfl)
    b_ValueError := He.free_ok X G (c.fact 21 (f := .free "ValueError") rfl)
    b_KeyError := He.free_ok X G (c.fact 22 (f := .free "KeyError") rfl)
    b_int := He.free_ok X G (c.fact 23 (f := .free "int") rfl)
    b_len := He.free_ok X G (c.fact 24 (f := .free "len") rfl)
    b_range := He.free_ok X G (c.fact 25 (f := .free "range") rfl)
    b_tuple := He.free_ok X G (c.fact 26 (f := .free "tuple") rfl)
    cl := ex_cls e
    na_InvalidProgram_part := He.noat_ok (c.fact 27 (f := .noat "InvalidProgram" "part") rfl)
    na_InvalidProgram_path := He.noat_ok (c.fact 28 (f := .noat "InvalidProgram" "path") rfl)
    na_InvalidHistory_at := He.noat_ok (c.fact 29 (f := .noat "InvalidHistory" "at") rfl)
    na_InvalidText_line := He.noat_ok (c.fact 30 (f := .noat "InvalidText" "line") rfl)
    na_InvalidArgument_part := He.noat_ok (c.fact 31 (f := .noat "InvalidArgument" "part") rfl)
    na_InvalidNote_at := He.noat_ok (c.fact 32 (f := .noat "InvalidNote" "at") rfl)
    na_Falls_word := He.noat_ok (c.fact 33 (f := .noat "Falls" "word") rfl)
    na_Falls_path := He.noat_ok (c.fact 34 (f := .noat "Falls" "path") rfl)
    na_Breaks_at := He.noat_ok (c.fact 35 (f := .noat "Breaks" "at") rfl)
    na_Breaks_word := He.noat_ok (c.fact 36 (f := .noat "Breaks" "word") rfl)
    na_NoRun_name := He.noat_ok (c.fact 37 (f := .noat "NoRun" "name") rfl)
    na_Taken_name := He.noat_ok (c.fact 38 (f := .noat "Taken" "name") rfl)
    na_LimitExceeded_limit := He.noat_ok (c.fact 39 (f := .noat "LimitExceeded" "limit") rfl) }
theorem def_InvalidProgram (X : K.In h) (G : h.Ns mainGlobals mg) (e : ex K = true) (c : He.SaysD fa fn K) (T : Names K mg) : ErrDef P w K mg base CX0 1 "InvalidProgram" (C_ K 0) ["self", "part", "path"] ["part", "path"] := by
  obtain ⟨fd, F⟩ := c.def_ 0 (d := dI0) rfl
  obtain ⟨i1, i2⟩ := He.ba (ex_ini e 0 (by decide))
  refine ⟨⟨_, fd, T.c_InvalidProgram, (T.cl 0 (by decide)).err, He.eqO_ok i1, of_decide_eq_true i2, F.bindsN (ps := ["self", "part", "path"]) (fun _ _ _ _ _ _ us hl => match us, hl with | [_, _, _], _ => rfl), fun s u ws _ hl => ?_, ?_, by decide, rfl⟩⟩
  · obtain ⟨oc, od, dV, kV, doc, pm, an, cdv, ct, osl, rfl, _, _, hD, _⟩ := F.ex
    rcases hD with ⟨_, rfl⟩ | ⟨z, _⟩
    · match ws, hl with
      | [_, _], _ => exact .of_eq rfl
    · exact absurd rfl z
  · exact ok_ini2 F ⟨rfl, rfl, rfl, by decide +kernel, rfl, by decide +kernel, by decide +kernel⟩ rfl rfl rfl (by decide) (by decide) (by decide) (by decide) (T.cl 0 (by decide)).err T.na_InvalidProgram_part T.na_InvalidProgram_path
theorem def_InvalidHistory (X : K.In h) (G : h.Ns mainGlobals mg) (e : ex K = true) (c : He.SaysD fa fn K) (T : Names K mg) : ErrDef P w K mg base CX0 1 "InvalidHistory" (C_ K 1) ["self", "at"] ["at"] := by
  obtain ⟨fd, F⟩ := c.def_ 1 (d := dI1) rfl
  obtain ⟨i1, i2⟩ := He.ba (ex_ini e 1 (by decide))
  refine ⟨⟨_, fd, T.c_InvalidHistory, (T.cl 1 (by decide)).err, He.eqO_ok i1, of_decide_eq_true i2, F.bindsN (ps := ["self", "at"]) (fun _ _ _ _ _ _ us hl => match us, hl with | [_, _], _ => rfl), fun s u ws _ hl => ?_, ?_, by decide, rfl⟩⟩
  · obtain ⟨oc, od, dV, kV, doc, pm, an, cdv, ct, osl, rfl, _, _, hD, _⟩ := F.ex
    rcases hD with ⟨_, rfl⟩ | ⟨z, _⟩
    · match ws, hl with
      | [_], _ => exact .of_eq rfl
    · exact absurd rfl z
  · exact ok_ini1 F ⟨rfl, rfl, rfl, by decide +kernel, rfl, by decide +kernel, by decide +kernel⟩ rfl rfl (by decide) (by decide) (T.cl 1 (by decide)).err T.na_InvalidHistory_at
theorem def_InvalidText (X : K.In h) (G : h.Ns mainGlobals mg) (e : ex K = true) (c : He.SaysD fa fn K) (T : Names K mg) : ErrDef P w K mg base CX0 1 "InvalidText" (C_ K 2) ["self", "line"] ["line"] := by
  obtain ⟨fd, F⟩ := c.def_ 2 (d := dI2) rfl
  obtain ⟨i1, i2⟩ := He.ba (ex_ini e 2 (by decide))
  refine ⟨⟨_, fd, T.c_InvalidText, (T.cl 2 (by decide)).err, He.eqO_ok i1, of_decide_eq_true i2, F.bindsN (ps := ["self", "line"]) (fun _ _ _ _ _ _ us hl => match us, hl with | [_, _], _ => rfl), fun s u ws _ hl => ?_, ?_, by decide, rfl⟩⟩
  · obtain ⟨oc, od, dV, kV, doc, pm, an, cdv, ct, osl, rfl, _, _, hD, _⟩ := F.ex
    rcases hD with ⟨_, rfl⟩ | ⟨z, _⟩
    · match ws, hl with
      | [_], _ => exact .of_eq rfl
    · exact absurd rfl z
  · exact ok_ini1 F ⟨rfl, rfl, rfl, by decide +kernel, rfl, by decide +kernel, by decide +kernel⟩ rfl rfl (by decide) (by decide) (T.cl 2 (by decide)).err T.na_InvalidText_line
theorem def_InvalidArgument (X : K.In h) (G : h.Ns mainGlobals mg) (e : ex K = true) (c : He.SaysD fa fn K) (T : Names K mg) : ErrDef P w K mg base CX0 1 "InvalidArgument" (C_ K 3) ["self", "part"] ["part"] := by
  obtain ⟨fd, F⟩ := c.def_ 3 (d := dI3) rfl
  obtain ⟨i1, i2⟩ := He.ba (ex_ini e 3 (by decide))
  refine ⟨⟨_, fd, T.c_InvalidArgument, (T.cl 3 (by decide)).err, He.eqO_ok i1, of_decide_eq_true i2, F.bindsN (ps := ["self", "part"]) (fun _ _ _ _ _ _ us hl => match us, hl with | [_, _], _ => rfl), fun s u ws _ hl => ?_, ?_, by decide, rfl⟩⟩
  · obtain ⟨oc, od, dV, kV, doc, pm, an, cdv, ct, osl, rfl, _, _, hD, _⟩ := F.ex
    rcases hD with ⟨_, rfl⟩ | ⟨z, _⟩
    · match ws, hl with
      | [_], _ => exact .of_eq rfl
    · exact absurd rfl z
  · exact ok_ini1 F ⟨rfl, rfl, rfl, by decide +kernel, rfl, by decide +kernel, by decide +kernel⟩ rfl rfl (by decide) (by decide) (T.cl 3 (by decide)).err T.na_InvalidArgument_part
theorem def_InvalidNote (X : K.In h) (G : h.Ns mainGlobals mg) (e : ex K = true) (c : He.SaysD fa fn K) (T : Names K mg) : ErrDef P w K mg base CX0 1 "InvalidNote" (C_ K 4) ["self", "at"] ["at"] := by
  obtain ⟨fd, F⟩ := c.def_ 4 (d := dI4) rfl
  obtain ⟨i1, i2⟩ := He.ba (ex_ini e 4 (by decide))
  refine ⟨⟨_, fd, T.c_InvalidNote, (T.cl 4 (by decide)).err, He.eqO_ok i1, of_decide_eq_true i2, F.bindsN (ps := ["self", "at"]) (fun _ _ _ _ _ _ us hl => match us, hl with | [_, _], _ => rfl), fun s u ws _ hl => ?_, ?_, by decide, rfl⟩⟩
  · obtain ⟨oc, od, dV, kV, doc, pm, an, cdv, ct, osl, rfl, _, _, hD, _⟩ := F.ex
    rcases hD with ⟨_, rfl⟩ | ⟨z, _⟩
    · match ws, hl with
      | [_], _ => exact .of_eq rfl
    · exact absurd rfl z
  · exact ok_ini1 F ⟨rfl, rfl, rfl, by decide +kernel, rfl, by decide +kernel, by decide +kernel⟩ rfl rfl (by decide) (by decide) (T.cl 4 (by decide)).err T.na_InvalidNote_at
theorem def_Falls (X : K.In h) (G : h.Ns mainGlobals mg) (e : ex K = true) (c : He.SaysD fa fn K) (T : Names K mg) : ErrDef P w K mg base CX0 1 "Falls" (C_ K 5) ["self", "word", "path"] ["word", "path"] := by
  obtain ⟨fd, F⟩ := c.def_ 5 (d := dI5) rfl
  obtain ⟨i1, i2⟩ := He.ba (ex_ini e 5 (by decide))
  refine ⟨⟨_, fd, T.c_Falls, (T.cl 5 (by decide)).err, He.eqO_ok i1, of_decide_eq_true i2, F.bindsN (ps := ["self", "word", "path"]) (fun _ _ _ _ _ _ us hl => match us, hl with | [_, _, _], _ => rfl), fun s u ws _ hl => ?_, ?_, by decide, rfl⟩⟩
  · obtain ⟨oc, od, dV, kV, doc, pm, an, cdv, ct, osl, rfl, _, _, hD, _⟩ := F.ex
    rcases hD with ⟨_, rfl⟩ | ⟨z, _⟩
    · match ws, hl with
      | [_, _], _ => exact .of_eq rfl
    · exact absurd rfl z
  · exact ok_ini2 F ⟨rfl, rfl, rfl, by decide +kernel, rfl, by decide +kernel, by decide +kernel⟩ rfl rfl rfl (by decide) (by decide) (by decide) (by decide) (T.cl 5 (by decide)).err T.na_Falls_word T.na_Falls_path
theorem def_Breaks (X : K.In h) (G : h.Ns mainGlobals mg) (e : ex K = true) (c : He.SaysD fa fn K) (T : Names K mg) : ErrDef P w K mg base CX0 1 "Breaks" (C_ K 6) ["self", "at", "word"] ["at", "word"] := by
  obtain ⟨fd, F⟩ := c.def_ 6 (d := dI6) rfl
  obtain ⟨i1, i2⟩ := He.ba (ex_ini e 6 (by decide))
  refine ⟨⟨_, fd, T.c_Breaks, (T.cl 6 (by decide)).err, He.eqO_ok i1, of_decide_eq_true i2, F.bindsN (ps := ["self", "at", "word"]) (fun _ _ _ _ _ _ us hl => match us, hl with | [_, _, _], _ => rfl), fun s u ws _ hl => ?_, ?_, by decide, rfl⟩⟩
  · obtain ⟨oc, od, dV, kV, doc, pm, an, cdv, ct, osl, rfl, _, _, hD, _⟩ := F.ex
    rcases hD with ⟨_, rfl⟩ | ⟨z, _⟩
    · match ws, hl with
      | [_, _], _ => exact .of_eq rfl
    · exact absurd rfl z
  · exact ok_ini2 F ⟨rfl, rfl, rfl, by decide +kernel, rfl, by decide +kernel, by decide +kernel⟩ rfl rfl rfl (by decide) (by decide) (by decide) (by decide) (T.cl 6 (by decide)).err T.na_Breaks_at T.na_Breaks_word
theorem def_NoRun (X : K.In h) (G : h.Ns mainGlobals mg) (e : ex K = true) (c : He.SaysD fa fn K) (T : Names K mg) : ErrDef P w K mg base CX0 1 "NoRun" (C_ K 7) ["self", "name"] ["name"] := by
  obtain ⟨fd, F⟩ := c.def_ 7 (d := dI7) rfl
  obtain ⟨i1, i2⟩ := He.ba (ex_ini e 7 (by decide))
  refine ⟨⟨_, fd, T.c_NoRun, (T.cl 7 (by decide)).err, He.eqO_ok i1, of_decide_eq_true i2, F.bindsN (ps := ["self", "name"]) (fun _ _ _ _ _ _ us hl => match us, hl with | [_, _], _ => rfl), fun s u ws _ hl => ?_, ?_, by decide, rfl⟩⟩
  · obtain ⟨oc, od, dV, kV, doc, pm, an, cdv, ct, osl, rfl, _, _, hD, _⟩ := F.ex
    rcases hD with ⟨_, rfl⟩ | ⟨z, _⟩
    · match ws, hl with
      | [_], _ => exact .of_eq rfl
    · exact absurd rfl z
  · exact ok_ini1 F ⟨rfl, rfl, rfl, by decide +kernel, rfl, by decide +kernel, by decide +kernel⟩ rfl rfl (by decide) (by decide) (T.cl 7 (by decide)).err T.na_NoRun_name
theorem def_Taken (X : K.In h) (G : h.Ns mainGlobals mg) (e : ex K = true) (c : He.SaysD fa fn K) (T : Names K mg) : ErrDef P w K mg base CX0 1 "Taken" (C_ K 8) ["self", "name"] ["name"] := by
  obtain ⟨fd, F⟩ := c.def_ 8 (d := dI8) rfl
  obtain ⟨i1, i2⟩ := He.ba (ex_ini e 8 (by decide))
  refine ⟨⟨_, fd, T.c_Taken, (T.cl 8 (by decide)).err, He.eqO_ok i1, of_decide_eq_true i2, F.bindsN (ps := ["self", "name"]) (fun _ _ _ _ _ _ us hl => match us, hl with | [_, _], _ => rfl), fun s u ws _ hl => ?_, ?_, by decide, rfl⟩⟩
  · obtain ⟨oc, od, dV, kV, doc, pm, an, cdv, ct, osl, rfl, _, _, hD, _⟩ := F.ex
    rcases hD with ⟨_, rfl⟩ | ⟨z, _⟩
    · match ws, hl with
      | [_], _ => exact .of_eq rfl
    · exact absurd rfl z
  · exact ok_ini1 F ⟨rfl, rfl, rfl, by decide +kernel, rfl, by decide +kernel, by decide +kernel⟩ rfl rfl (by decide) (by decide) (T.cl 8 (by decide)).err T.na_Taken_name
theorem def_LimitExceeded (X : K.In h) (G : h.Ns mainGlobals mg) (e : ex K = true) (c : He.SaysD fa fn K) (T : Names K mg) : ErrDef P w K mg base CX0 1 "LimitExceeded" (C_ K 9) ["self", "limit"] ["limit"] := by
  obtain ⟨fd, F⟩ := c.def_ 9 (d := dI9) rfl
  obtain ⟨i1, i2⟩ := He.ba (ex_ini e 9 (by decide))
  refine ⟨⟨_, fd, T.c_LimitExceeded, (T.cl 9 (by decide)).err, He.eqO_ok i1, of_decide_eq_true i2, F.bindsN (ps := ["self", "limit"]) (fun _ _ _ _ _ _ us hl => match us, hl with | [_, _], _ => rfl), fun s u ws _ hl => ?_, ?_, by decide, rfl⟩⟩
  · obtain ⟨oc, od, dV, kV, doc, pm, an, cdv, ct, osl, rfl, _, _, hD, _⟩ := F.ex
    rcases hD with ⟨_, rfl⟩ | ⟨z, _⟩
    · match ws, hl with
      | [_], _ => exact .of_eq rfl
    · exact absurd rfl z
  · exact ok_ini1 F ⟨rfl, rfl, rfl, by decide +kernel, rfl, by decide +kernel, by decide +kernel⟩ rfl rfl (by decide) (by decide) (T.cl 9 (by decide)).err T.na_LimitExceeded_limit
theorem facts (X : K.In h) (G : h.Ns mainGlobals mg) {f : Addr} (hfa : mg ("law" : Str) = some (.ref f)) (e : ex K = true) (c : He.SaysD fa fn K) :
    ∃ fd : FuncData, (∀ (s : Shared) (v : Value), BindsTo s fd ⟨[v], []⟩ [("_law_script", v)]) ∧ ∀ base : Heap, K.In base → base.Ns mainGlobals mg → FnOk P w K mg base CX0 4 f fd ["_law_script"] (spLaw K) := by
  have T := names X G e c
  obtain ⟨fdPool, FPool⟩ := c.def_ 10 (d := dPool) rfl
  obtain ⟨fdDraw, FDraw⟩ := c.def_ 11 (d := dDraw) rfl
  obtain ⟨fdAbove, FAbove⟩ := c.def_ 12 (d := dAbove) rfl
  obtain ⟨fdFits, FFits⟩ := c.def_ 13 (d := dFits) rfl
  obtain ⟨fdInputs, FInputs⟩ := c.def_ 14 (d := dInputs) rfl
  obtain ⟨fdLaw, FLaw⟩ := c.def_ 15 (d := dLaw) rfl
  have z := hfa.symm.trans (He.glo_ok X G (c.fact 18 (f := .glo "law") rfl))
  cases z
  have b := FunD.bindsA (ps := ["_law_script"]) FLaw fun _ _ _ _ _ _ us hl => match us, hl with | [_], _ => rfl
  refine ⟨fdLaw, fun s v => b s [v] rfl, fun base _ _ => ?_⟩
  have G_pool : Def P w K mg base CX0 1 "_law_pool" ["_law_script", "_law_number"] (spPool K) := ⟨⟨_, fdPool, He.glo_ok X G (c.fact 13 (f := .glo "_law_pool") rfl), FPool.kp, FPool.bindsN (ps := ["_law_script", "_law_number"]) (fun _ _ _ _ _ _ us hl => match us, hl with | [_, _], _ => rfl), ok_pool FPool T.b_int T.b_len⟩⟩
  have G_draw : Def P w K mg base CX0 1 "_law_draw" ["_law_pool_here", "_law_many"] spDraw := ⟨⟨_, fdDraw, He.glo_ok X G (c.fact 14 (f := .glo "_law_draw") rfl), FDraw.kp, FDraw.bindsN (ps := ["_law_pool_here", "_law_many"]) (fun _ _ _ _ _ _ us hl => match us, hl with | [_, _], _ => rfl), ok_draw FDraw T.b_int⟩⟩
  have G_above : Def P w K mg base CX0 1 "_law_above" ["_law_error"] (spAbove K) := ⟨⟨_, fdAbove, He.glo_ok X G (c.fact 15 (f := .glo "_law_above") rfl), FAbove.kp, FAbove.bindsN (ps := ["_law_error"]) (fun _ _ _ _ _ _ us hl => match us, hl with | [_], _ => rfl), ok_above FAbove T⟩⟩
  have G_fits : Def P w K mg base CX0 2 "_law_fits" ["_law_error", "_law_number"] (spFits K) := ⟨⟨_, fdFits, He.glo_ok X G (c.fact 16 (f := .glo "_law_fits") rfl), FFits.kp, FFits.bindsN (ps := ["_law_error", "_law_number"]) (fun _ _ _ _ _ _ us hl => match us, hl with | [_, _], _ => rfl), ok_fits FFits T G_above⟩⟩
  have G_inputs_fit : Def P w K mg base CX0 3 "_law_inputs_fit" ["_law_text", "_law_steps", "_law_index"] (spInputs K) := ⟨⟨_, fdInputs, He.glo_ok X G (c.fact 17 (f := .glo "_law_inputs_fit") rfl), FInputs.kp, FInputs.bindsN (ps := ["_law_text", "_law_steps", "_law_index"]) (fun _ _ _ _ _ _ us hl => match us, hl with | [_, _, _], _ => rfl), ok_inputs FInputs T G_fits (def_InvalidProgram X G e c T) (def_InvalidHistory X G e c T) (def_InvalidText X G e c T) (def_InvalidArgument X G e c T) (def_InvalidNote X G e c T)⟩⟩
  exact ok_law FLaw T G_pool G_draw G_fits G_inputs_fit (def_Falls X G e c T) (def_Breaks X G e c T) (def_NoRun X G e c T) (def_Taken X G e c T) (def_LimitExceeded X G e c T)
end
end K84
open PySem PySem.W PySem.Calls PyProof.Rows
theorem PySem.Challenge.cw_openruns_k84_errors_made_by_name_holds : PySem.Challenge.rw_openruns_k84_errors_made_by_name.Holds := by
  w_on; o_law
  refine HandSHeadRun.head_any (r := K84.R) (q := view K84.R.prog [20]) (H := K84.hk) (ob := K84.ob) (M := 6000) (loose := K84.loose) (d := HandSHeadRun.topDef K84.R.prog 20) (kwd := []) He.obX_eq
    (by kernel_rfl) (fun s => by kernel_rfl) K84.run (by kernel_rfl) (by kernel_rfl) (by kernel_rfl) (by rfl) (by first | assumption | decide +kernel) (by decide +kernel) ⟨rfl, rfl, rfl, rfl, rfl, by decide +kernel⟩ ?hw ?hc
  case hw => w_witness2
  case hc =>
    refine L2.walk_ofE (l := PySem.Challenge.rw_openruns_k84_errors_made_by_name) (n := 63) (k := 4) (x := "_law_script") (CX := L2.CX0) rfl (by decide) (by kernel_rfl) ⟨rfl, by decide, by decide⟩ ?F (fun _ _ _ _ z => z)
    intro w mg fa h Y G hmg0
    obtain ⟨K, KX, ec, c⟩ := Y
    have hmg : mg ("law" : PySem.Str) = some (.ref fa) := by
      have e : (HandSHeadRun.topDef K84.R.prog 20).name = ("law" : PySem.Str) := by kernel_rfl
      rw [← e]
      exact hmg0
    obtain ⟨fd, hb, hF⟩ := K84.facts (P := (PySem.Challenge.rw_openruns_k84_errors_made_by_name).prog) (w := w) KX G hmg ec c
    exact ⟨K, fd, K84.spLaw K, KX, hb, fun H a ns hl _ hS => ⟨a, ns, rfl, hS, hl, fun _ => rfl⟩, hF⟩
#print axioms PySem.Challenge.cw_openruns_k84_errors_made_by_name_holds
