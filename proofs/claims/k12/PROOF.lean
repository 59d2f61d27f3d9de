import PyProof.Rows.All
import Wide.All
import OpenK.AllK
import Wide.FinOn
import HandS.ForMost
import HandS.Exc
import HandS.ExcInit
import HandS.ExcField
import HandS.IsInst
import HandS.ExcIs
import KE.KExcInit
import KE.KExcIs
import HandS.Wide
import HandS.HeadHook2
import HandS.HeadEnd
import HandS.Head2
import HandS.ListEq
import HandS.Flow
import HandS.Codes
import HandS.Steps
import HandS.HeadHook4
import HandS.TryOnly
import HandS.Zip
import HandS.Walk
import HandS.SetFor
import HandS.More
import HandS.ClsMeth
import HandS.SetBool
import HandS.DictComp
import HandS.Defaults
import HandS.CallRecv
import HandS.Strs
import HandS.ExcOwn
import HandS.WordsExc
import HandS.Text
import HandS.DeepEq
import PySem.Challenge.RW_openruns_k12_well_formed_histories
set_option Elab.async false
set_option maxRecDepth 100000
set_option maxHeartbeats 4000000
set_option linter.all false
/-! own errors over LookupError: made, stored into, read, asked for their class -/
namespace L2
open PySem PySem.Spec PyProof.Rows
abbrev leTail : List Value :=
  [.type "LookupError", .type "Exception", .type "BaseException", .type "object"]
/-- what the written part says of an own error class -/
structure ErrC (K : PySem.W.Frag) (C : Addr) : Prop where
  ini : PySem.W.excInitIn K C leTail "LookupError.__new__" = true
  ovr : PySem.W.excOver K C leTail = true
  sa : PySem.W.findIn K (.ref C) "__setattr__" = some (some (.builtin "object.__setattr__"))
  ga : PySem.W.findIn K (.ref C) "__getattribute__"
    = some (some (.builtin "BaseException.__getattribute__"))
  gg : PySem.W.findIn K (.ref C) "__getattr__" = some none
  exC : PySem.W.subIn K (.ref C) (.type "BaseException") = some true
  tyC : PySem.W.typeIn K (.ref C) = some (.type "type")
  kC : PySem.W.keepIn K (.ref C) = true
  hdC : PySem.W.hasDictIn K C = true
  ca : PySem.W.findIn K (.ref C) "__class__" = some (some (.builtin "object.__class__"))
  cg : PySem.W.specialIn K (.builtin "object.__class__") "__get__"
    = some (some (.builtin "getset_descriptor.__get__"))
  ct : PySem.W.takesIn K (.builtin "object.__class__") = some true
  cm : PySem.W.mroIn K C (.type "object") = some true
theorem taker_none {K : PySem.W.Frag} {C : Addr} {f : Str}
    (h : PySem.W.findIn K (.ref C) f = some none) : PySem.W.takerIn K C f = some none := NoAttr.taker h
section
variable {prog : Program} {w : World} {A : Around} {R : Result → Shared → Prop} {hp : Heap} {g : Array GenState}
  {d : Drawn} {t : Nat} {os : OsState} {K : PySem.W.Frag} {C x t0 : Addr} {name : Str} {tk : Tok} {v : Value}
/-- object.__setattr__ on a fresh error: its dict is made -/
theorem sa_new (T : ErrC K C) (X : K.In hp)
    (hx : hp.get? x = some { cls := .ref C, data := .fields #[.ref t0, .none, .none, .none, .bool false, .none] })
    (hno : PySem.W.findIn K (.ref C) name = some none)
    (hq : ∀ h' tk' dx, (∀ b o, b ≠ x → hp.get? b = some o → h'.get? b = some o) → hp.objs.size ≤ dx → dx ≠ x →
      h'.get? x = some { cls := .ref C, dict := some dx, data := .fields #[.ref t0, .none, .none, .none, .bool false, .none] } →
      h'.Ns1 dx (fun y => if y = name then some v else none) → R (.ok (.ret .none)) ⟨h', g, d, tk', os⟩) :
    codeAny (model prog w) A (.call (.builtin "object.__setattr__") ⟨[.ref x, .str name tk, v], []⟩) R
      ⟨hp, g, d, t, os⟩ := by
  have J : PySem.W.InstAt hp x { cls := .ref C, data := .fields #[.ref t0, .none, .none, .none, .bool false, .none] } C none :=
    ⟨hx, rfl, rfl, trivial⟩
  have hne : x ≠ hp.objs.size := Nat.ne_of_lt (Heap.lt_size hx)
  obtain ⟨cd, hcd, hdd⟩ := PySem.W.any_some T.hdC
  refine PySem.W.osa_openX PySem.F.store_LookupError X J T.ovr (taker_none hno) fun b => ?_
  have Lc : PySem.W.Looks (model prog w) hp (classData C) cd := PySem.W.looks_clsIn X hcd
  show wpAny _ _ (Builtin.ObjectAttr.storeInOwnDict (.ref x) (.ref C) (.str name tk) name v b) _ _ _
  unfold Builtin.ObjectAttr.storeInOwnDict Builtin.ObjectAttr.ownDictForStores
  repeat (first | with_reducible refine PySem.HandSPX.store_in_new ?_ ?_ | with_reducible refine wpAny_loadPart_at hx ?_ | with_reducible refine Lc.at ?_ | wp_step)
  · exact ⟨_, #[], _, (Heap.get?_update_ne _ _ _ _ hne.symm).trans (Heap.get?_push_at rfl rfl), rfl,
      fun e he => absurd he (by simp), fun _ => rfl⟩
  · intro h1 t1 ns same
    have hx1 := Heap.get?_push_of_some ({ cls := .type "dict", data := .dict #[] } : Obj) hx
    refine hq h1 t1 hp.objs.size (fun c o hc ho => ?_) (Nat.le_refl _) hne.symm ?_ ns
    · rw [same.2 c (Nat.ne_of_lt (Heap.lt_size ho)), Heap.get?_update_ne _ _ _ _ hc]
      exact Heap.get?_push_of_some _ ho
    · rw [same.2 x hne]
      exact Heap.get?_update_self _ hx1 rfl
/-- object.__setattr__ on an error that has its dict -/
theorem sa_old (T : ErrC K C) (X : K.In hp) {dx : Addr} {m0 : Str → Option Value} {nl : List Str}
    (hx : hp.get? x = some { cls := .ref C, dict := some dx, data := .fields #[.ref t0, .none, .none, .none, .bool false, .none] })
    (hns : hp.Ns1 dx m0) (hw : Within m0 nl) (hz : nl.length ≤ 1000)
    (hno : PySem.W.findIn K (.ref C) name = some none)
    (hq : ∀ h' tk', (∀ b o, b ≠ dx → hp.get? b = some o → h'.get? b = some o) →
      h'.Ns1 dx (fun y => if y = name then some v else m0 y) → R (.ok (.ret .none)) ⟨h', g, d, tk', os⟩) :
    codeAny (model prog w) A (.call (.builtin "object.__setattr__") ⟨[.ref x, .str name tk, v], []⟩) R
      ⟨hp, g, d, t, os⟩ := by
  obtain ⟨oD, _, _, hoD, _, _⟩ := hns.count hw
  have J : PySem.W.InstAt hp x { cls := .ref C, dict := some dx, data := .fields #[.ref t0, .none, .none, .none, .bool false, .none] } C (some oD) :=
    ⟨hx, rfl, rfl, hoD⟩
  obtain ⟨cd, hcd, hdd⟩ := PySem.W.any_some T.hdC
  refine PySem.W.osa_openX PySem.F.store_LookupError X J T.ovr (taker_none hno) fun b => ?_
  have Lc : PySem.W.Looks (model prog w) hp (classData C) cd := PySem.W.looks_clsIn X hcd
  show wpAny _ _ (Builtin.ObjectAttr.storeInOwnDict (.ref x) (.ref C) (.str name tk) name v b) _ _ _
  unfold Builtin.ObjectAttr.storeInOwnDict Builtin.ObjectAttr.ownDictForStores
  repeat (first | with_reducible refine PySem.OEX.store_in_old hns hw hz ?_ | with_reducible refine wpAny_loadPart_at hx ?_ | with_reducible refine Lc.at ?_ | wp_step)
  intro h1 t1 ns same
  exact hq h1 t1 (fun c o hc ho => (same.2 c hc).trans ho) ns
end
end L2

set_option Elab.async false
set_option maxRecDepth 100000
set_option maxHeartbeats 4000000
set_option linter.all false
namespace L2
open PySem PySem.Spec PySem.HandSPX
section
variable {M : Model} {A : Around} {E : Value → Shared → Prop} {h : Heap} {g : Array GenState} {d : Drawn} {t : Nat} {os : OsState}
variable {nm q : Str} {C N : Addr} {bs bm bmB : List Value} {hdct : Bool} {sn : List Str} {sub : List Value} {ab : Bool} {col : Option Bool} {dd : Option Addr} {k0 k1 k2 k3 k5 : Option Value} {B newId initId : String}
theorem check_new_kw (F : ExcBaseFacts B newId initId bmB) (hT : ∀ X : String, bm.contains (.type X) = bmB.contains (.type X)) {rest : List Value} {kw : List (Str × Value)} {Q : Unit → Shared → Prop}
    (hC : h.get? C = some (excClassObj nm q C N bs bm hdct sn sub ab col dd k0 k1 k2 k3 k5 newId)) (hq : Q () ⟨h, g, d, t, os⟩) :
    wpAny M A (checkBuiltinCall newId ⟨.ref C :: rest, kw⟩) Q E ⟨h, g, d, t, os⟩ := by
  have hB : (Value.ref C :: bm).contains (.type B) = true := by rw [List.contains_cons, hT, F.hasB, Bool.or_true]
  have hS := F.noStar
  simp only [checkBuiltinCall, F.newKind, F.newSplit, F.newRow]
  repeat (first | refine wpAny_loadPart_at hC ?_ | (refine wpAny_isSubtype_exc hC ?_; rw [hB]) | refine wpAny_staticBase_exc hC ?_ | refine wpAny_madeBy_exc hC ?_ | simp only [bne_self_eq_false, Bool.false_eq_true, if_false] | wp_step)
  exact hq
end
section
variable {prog : Program} {w : World} {A : Around} {E : Value → Shared → Prop} {R : Result → Shared → Prop} {h : Heap} {g : Array GenState} {d : Drawn} {t : Nat} {os : OsState}
variable {nm q : Str} {C N : Addr} {bs bm bmB : List Value} {hdct : Bool} {sn : List Str} {sub : List Value} {ab : Bool} {col : Option Bool} {dd : Option Addr} {k0 k1 k2 k3 k5 : Option Value} {B newId initId : String}
theorem new_kw (F : ExcBaseFacts B newId initId bmB) (hT : ∀ X : String, bm.contains (.type X) = bmB.contains (.type X)) {rest : List Value} {kw : List (Str × Value)}
    (hC : h.get? C = some (excClassObj nm q C N bs bm hdct sn sub ab col dd k0 k1 k2 k3 k5 newId)) (hr : rest.length ≤ sizeLine)
    (hq : R (.ok (.ret (.ref (h.objs.size + 1)))) ⟨(h.push (PySem.W.kdv_tup rest)).push (excO C h.objs.size), g, d, t, os⟩) :
    codeAny (model prog w) A (.builtin newId ⟨.ref C :: rest, kw⟩) R ⟨h, g, d, t, os⟩ := by
  have hE := F.ends
  have hB : (Value.ref C :: bm).contains (.type B) = true := by rw [List.contains_cons, hT, F.hasB, Bool.or_true]
  have hA : (Value.ref C :: bm).contains (.type "AttributeError") = false := by rw [List.contains_cons, hT, F.noAttr]; rfl
  have hN : (Value.ref C :: bm).contains (.type "NameError") = false := by rw [List.contains_cons, hT, F.noName]; rfl
  refine codeAny_builtinAt F.entry ?_
  unfold Builtin.«BaseException.__new__»
  refine wpAt_bind ?_
  show wpAt _ _ _ (stack >>= _) _ _ _
  refine wpAt_bind (wpAt_stack fun p below => wpAt_of_wpAny ?_)
  wp_walk
  refine wpAt_of_wpAny ?_
  rw [F.owner]
  repeat (first | with_reducible refine wpAny_madeHere_exc F.canon hC ?_ | with_reducible refine wpAny_loadPart_at hC ?_ | (with_reducible refine wpAny_isSubtype_exc hC ?_; first | rw [hB] | rw [hA] | rw [hN]) | wp_step)
  show R _ _
  rw [Heap.size_push]
  exact hq
theorem type_call_kw (F : ExcBaseFacts B newId initId bmB) (hT : ∀ X : String, bm.contains (.type X) = bmB.contains (.type X)) {rest : List Value} {kw : List (Str × Value)} {fI : Addr} {Q : Fin → Shared → Prop}
    (hC : h.get? C = some (excClassObj nm q C N bs bm hdct sn sub ab col dd k0 k1 k2 k3 k5 newId))
    (hi : W.Looks (model prog w) h (typeLookup (.ref C) "__init__") (some (.ref fI))) (hb : ∀ self, W.Looks (model prog w) h (bindSpecial (.ref fI) self) (.ref fI, [self])) (hr : rest.length ≤ sizeLine)
    (hq : codeAny (model prog w) A (.call (.ref fI) ⟨.ref (h.objs.size + 1) :: rest, kw⟩)
      (fun r s' => match r with | .ok (.ret v) => v = .none ∧ Q (.done (.ret (.ref (h.objs.size + 1)))) s' | .ok _ => False | .error e => E e s')
      ⟨(h.push (PySem.W.kdv_tup rest)).push (excO C h.objs.size), g, d, t, os⟩) :
    wpAny (model prog w) A (Builtin.«type.__call__» ⟨.ref C :: rest, kw⟩) Q E ⟨h, g, d, t, os⟩ := by
  repeat (first | with_reducible refine wpAny_loadPart_at hC ?_ | with_reducible refine wpAny_madeBy_exc hC ?_ | wp_step)
  refine codeAny_call_builtin_code (Code.quiet_builtin _ F.quiet) (check_new_kw F hT hC ?_)
  refine new_kw F hT hC hr ?_
  show wpAny _ _ _ _ _ _
  have kp : ∀ b o, h.get? b = some o → ((h.push (PySem.W.kdv_tup rest)).push (excO C h.objs.size)).get? b = some o := fun b o e => Heap.get?_push_of_some _ (Heap.get?_push_of_some _ e)
  have hC1 := kp _ _ hC
  have hx : ((h.push (PySem.W.kdv_tup rest)).push (excO C h.objs.size)).get? (h.objs.size + 1) = some (excO C h.objs.size) := by heap_get
  have hcc : (Value.ref C :: bm).contains (.ref C) = true := by simp
  have i1 := hi.keeps kp
  have b1 := (hb (.ref (h.objs.size + 1))).keeps kp
  unfold isInstance
  repeat (first | with_reducible refine wpAny_loadPart_at hx ?_ | (with_reducible refine wpAny_isSubtype_exc hC1 ?_; rw [hcc]) | wp_step)
  show wpAny _ _ (typeLookup (.ref C) _) _ _ _
  refine i1.at ?_
  refine wpAny_holding (wpAny_bind (b1.at ?_))
  refine wpAny_bind (wpAny_call (codeAny_mono hq fun r s' z => ?_))
  rcases r with e | (v | _ | _ | _) <;> first | exact z | exact z.elim | skip
  obtain ⟨rfl, z⟩ := z
  first
    | exact wpAny_pure (wpAny_pure z)
    | (wp_walk; exact z)
theorem call_kw (F : ExcBaseFacts B newId initId bmB) (hT : ∀ X : String, bm.contains (.type X) = bmB.contains (.type X)) {rest : List Value} {kw : List (Str × Value)} {fI : Addr}
    (hC : h.get? C = some (excClassObj nm q C N bs bm hdct sn sub ab col dd k0 k1 k2 k3 k5 newId))
    (hi : W.Looks (model prog w) h (typeLookup (.ref C) "__init__") (some (.ref fI))) (hb : ∀ self, W.Looks (model prog w) h (bindSpecial (.ref fI) self) (.ref fI, [self])) (hr : rest.length ≤ sizeLine)
    (hq : codeAny (model prog w) (A.under (.builtin "type.__call__" ⟨.ref C :: rest, kw⟩)) (.call (.ref fI) ⟨.ref (h.objs.size + 1) :: rest, kw⟩) (W.InitBack (h.objs.size + 1) R)
      ⟨(h.push (PySem.W.kdv_tup rest)).push (excO C h.objs.size), g, d, t, os⟩) :
    codeAny (model prog w) A (.call (.ref C) ⟨rest, kw⟩) R ⟨h, g, d, t, os⟩ := by
  have f1 := tc_lookup
  have f2 := tc_bind (.ref C)
  have hTy : (⟨h, g, d, t, os⟩ : Shared).TypeIs (.ref C) "type" := ⟨_, hC, rfl⟩
  refine codeAny_of_tree ?_
  show wpAny _ _ (callAny (.ref C) _) _ _ _
  repeat (any_goals (first | assumption | with_reducible refine wpAny_loadPart_at hC ?_ | wp_step))
  refine ⟨rfl, ?_⟩
  refine codeAny_call_builtin_at (Code.quiet_builtin _ (by decide +kernel)) entry_typeCall (wpAny_check_type_call_sub hC (type_call_kw F hT hC hi hb hr ?_))
  refine codeAny_mono hq fun r s' z => ?_
  rcases r with e | (v | _ | _ | _) <;> exact z
end
end L2

set_option Elab.async false
set_option maxRecDepth 100000
set_option maxHeartbeats 4000000
set_option linter.all false
namespace L2
open PySem PySem.Spec PyProof.Rows
section
variable {X : Cx} {pins : List (Addr × Obj)} {σ : St} {H : Hp} {s : Shared} {a C dx : Addr} {f : Str} {y : V} {u : Value}
  {fs : List (Str × V)} {Q : Unit → Shared → Prop} {E : Value → Shared → Prop} {A : Around}
/-- the error at a gets its dict at dx, both tracked -/
theorem swap_un {hp h' : Heap} {ex : List Addr} (fr : List Addr) (hok : HOk X.prog X.w H hp) (e : H a = some (exo a C none)) (dn : hp.objs.size ≤ dx)
    (kp : ∀ b o, b ≠ a → hp.get? b = some o → h'.get? b = some o) (ha : ∃ o, h'.get? a = some o) :
    Un fr ex H (upd (upd H dx (exd dx fs)) a (exo a C (some dx))) hp h' := by
  have nd : H dx = none := hok.fresh dn
  have old : ∀ {b : Addr} {o : Obj}, hp.get? b = some o → b ≠ dx := fun z => Nat.ne_of_lt (Nat.lt_of_lt_of_le (Heap.lt_size z) dn)
  have na : ∀ {b : Addr}, H b = none → b ≠ a := fun n z => by rw [z, e] at n; cases n
  have kind : ∀ {b : Addr} {o : HO}, H b = some o → exo a C none ≠ o → upd (upd H dx (exd dx fs)) a (exo a C (some dx)) b = some o := fun {b o} z d => by
    rw [upd_ne (at_ne e z d), upd_ne (ne_of_none z nd)]
    exact z
  exact {
    keep := fun b o z n _ _ => kp b o (na n) z
    slot := fun b o z n _ _ => ⟨o.slots, kp b o (na n) z⟩
    free := fun b o z n _ => by
      rw [upd_ne (na n), upd_ne (old z)]
      exact n
    there := fun b o z _ => by
      rcases Decidable.em (b = a) with q | q
      · rw [q]; exact ha
      · exact ⟨o, kp b o q z⟩
    tups := fun b xs z => kind z exo_tup
    frzs := fun b o v z => kind z exo_frz
    tbls := fun b ps z => ⟨#[], by rw [kind z exo_tbl]; simp⟩ }
theorem swap_ok {hp h' : Heap} {t1 : Addr} {mA : Str → Option Value} (hok : HOk X.prog X.w H hp) (e : H a = some (exo a C none)) (dn : hp.objs.size ≤ dx)
    (kp : ∀ b o, b ≠ a → hp.get? b = some o → h'.get? b = some o)
    (ha : h'.get? a = some { cls := .ref C, dict := some dx, data := .fields #[.ref t1, .none, .none, .none, .bool false, .none] })
    (hn : h'.Ns1 dx mA) (r : ∀ g, RelO (fs.lookup g) (mA g)) : HOk X.prog X.w (upd (upd H dx (exd dx fs)) a (exo a C (some dx))) h' := by
  have nd : H dx = none := hok.fresh dn
  intro b o q
  rcases Decidable.em (b = a) with z | z
  · subst z
    rw [upd_same] at q
    cases q
    exact exo_ok ha
  · rw [upd_ne z] at q
    rcases Decidable.em (b = dx) with z2 | z2
    · subst z2
      rw [upd_same] at q
      cases q
      exact exd_ok hn r
    · rw [upd_ne z2] at q
      have far : ∀ {c : Addr} {u : HO}, H c = some u → exo a C none ≠ u → upd (upd H dx (exd dx fs)) a (exo a C (some dx)) c = some u := fun {c u} k d => by
        rw [upd_ne (at_ne e k d), upd_ne (ne_of_none k nd)]
        exact k
      exact (hok b o q).stay (fun c v hc k => kp c v (by rcases hc with hc | hc; exact hc ▸ z; exact at_ne e hc exo_own) k)
        (fun c hc => far hc exo_own) (fun c xs hc => far hc exo_tup)
/-- self.f = y, the first store -/
theorem put_new (T : ErrC X.K C) (I : Inv X pins σ H s) (e : H a = some (exo a C none)) (hno : PySem.W.findIn X.K (.ref C) f = some none) (ry : RelV y u)
    (h : ∀ dx s', H dx = none → dx ≠ a → Inv X pins σ (upd (upd H dx (exd dx [(f, y)])) a (exo a C (some dx))) s' → Q () s') :
    wpAny (model X.prog X.w) A (setAttr (.ref a) f u) Q E s := by
  obtain ⟨t1, ho⟩ := exo_at I.hok e
  obtain ⟨hp, g, d, t, os⟩ := s
  refine PySem.W.set_plain I.kIn (od := none) ⟨ho, rfl, rfl, trivial⟩ T.sa ?_
  refine sa_new T I.kIn ho hno fun h' tk' dx k dn dne hx hn => ?_
  exact h dx _ (I.hok.fresh dn) dne (I.un (t' := tk') (swap_un _ I.hok e dn k ⟨_, hx⟩) (swap_ok I.hok e dn k hx hn (relO_put (fs := []) ry fun _ => True.intro)))
/-- self.f = y, a further store -/
theorem put_old (T : ErrC X.K C) (I : Inv X pins σ H s) (e : H a = some (exo a C (some dx))) (ed : H dx = some (exd dx fs)) (hl : fs.length ≤ 900)
    (hno : PySem.W.findIn X.K (.ref C) f = some none) (ry : RelV y u)
    (h : ∀ s', Inv X pins σ (upd H dx (exd dx ((f, y) :: fs))) s' → Q () s') : wpAny (model X.prog X.w) A (setAttr (.ref a) f u) Q E s := by
  obtain ⟨t1, ho⟩ := exo_at I.hok e
  obtain ⟨mA, hns, rel⟩ := exd_at I.hok ed
  have hw := within_of rel
  obtain ⟨hp, g, d, t, os⟩ := s
  obtain ⟨oD, _, _, hoD, _, _⟩ := hns.count hw
  refine PySem.W.set_plain I.kIn (od := some oD) ⟨ho, rfl, rfl, hoD⟩ T.sa ?_
  refine sa_old T I.kIn ho hns hw (by rw [List.length_map]; omega) hno fun h' tk' k hn => ?_
  have there : ∃ o, h'.get? dx = some o := let ⟨o, _, _, z, _⟩ := hn; ⟨o, z⟩
  exact h _ (I.write (t' := tk') (x := dx) (e := dx) (by rw [ed]; exact True.intro) (.inl rfl) k there (exd_ok hn (relO_put ry rel)))
end
/-- self.f = e in an own error's __init__ -/
def tPut (K : PySem.W.Frag) (f : Str) (to te : TE) : TS := fun D σ H => te σ H fun y H1 => to σ H1 fun x H2 => ∃ a C : Addr, x = .ref a ∧ ErrC K C ∧
  PySem.W.findIn K (.ref C) f = some none ∧
  ((H2 a = some (exo a C none) ∧ ∀ dx, H2 dx = none → dx ≠ a → D.nx σ (upd (upd H2 dx (exd dx [(f, y)])) a (exo a C (some dx)))) ∨
    ∃ (dx : Addr) (fs : List (Str × V)), H2 a = some (exo a C (some dx)) ∧ H2 dx = some (exd dx fs) ∧ fs.length ≤ 900 ∧ D.nx σ (upd H2 dx (exd dx ((f, y) :: fs))))
theorem ps_put {X : Cx} {o e : Expr} {to te : TE} {f : Str} {p' pos : Pos} (ho : PE X o to) (he : PE X e te)
    (hs : swapsWith e (some (.Attribute o f p')) pos.line X.env = pure false := by rfl) : PS X (.Assign [.Attribute o f p'] e pos) (tPut X.K f to te) := by
  refine ⟨fun pins s σ H D I h => ?_⟩
  refine plainObj_wpAny_Assign_Attribute (thn (he.run pins s σ H _ I h) fun v s1 ⟨y, H1, I1, r1, q1⟩ => thn (ho.run pins s1 σ H1 _ I1 q1) fun u s2 ⟨x, H2, I2, r2, q2⟩ => ?_) hs
  obtain ⟨a, C, ex, T, hno, q⟩ := q2
  subst ex
  obtain rfl : u = Value.ref a := r2
  rcases q with ⟨ea, q⟩ | ⟨dx, fs, ea, ed, hl, q⟩
  · exact put_new T I2 ea hno r1 fun dx s' n ne J => ⟨σ, _, J, q dx n ne⟩
  · exact put_old T I2 ea ed hl hno r1 fun s' J => ⟨σ, _, J, q⟩
/-- what __init__ of an own error promises: its values stand in its dict -/
def spErr (C : Addr) (fns : List Str) : Sp := fun vs H Q _ => ∃ (a : Addr) (ws : List V), vs = .ref a :: ws ∧ ws.length = fns.length ∧ H a = some (exo a C none) ∧
  ∀ dx H', H dx = none → dx ≠ a → H' dx = some (exd dx (fns.zip ws).reverse) → H' a = some (exo a C (some dx)) → (∀ b, b ≠ a → b ≠ dx → H' b = H b) → Q .non H'
/-- C(e, ..), C an own error class: a new error and its dict -/
def tNew (C : Addr) (fns : List Str) (ta : TA) : TE := fun σ H Q => ta σ H fun vs H1 => vs.length = fns.length ∧
  ∀ a dx H', H1 a = none → H1 dx = none → dx ≠ a → H' dx = some (exd dx (fns.zip vs).reverse) → H' a = some (exo a C (some dx)) → (∀ b, b ≠ a → b ≠ dx → H' b = H1 b) → Q (.ref a) H'
section
variable {X : Cx} {CX : CXT} {k : Nat} {fI C : Addr} {fd : FuncData} {fns ps : List Str} {x : Str} {p pos : Pos} {e : Expr} {es : List Expr} {ta : TA}
/-- an own error class whose __init__ keeps that promise -/
structure MkE (X : Cx) (CX : CXT) (k : Nat) (C fI : Addr) (fd : FuncData) (ps fns : List Str) : Prop where
  T : ErrC X.K C
  iC : PySem.W.findIn X.K (.ref C) "__init__" = some (some (.ref fI))
  tI : PySem.W.typeIn X.K (.ref fI) = some (.type "function")
  F : FnOk X.prog X.w X.K X.mg X.base CX k fI fd ps (spErr C fns)
  few : fns.length ≤ 1000
theorem run_new {pins : List (Addr × Obj)} {σ : St} {H : Hp} {s : Shared} {Q : VK} {us all : List Value} {vs : List V} {kw : List (Str × Value)} (M : MkE X CX k C fI fd ps fns) (hr : Room (k + 1) X.A) (hx : Passes CX X E0) (I : Inv X pins σ H s)
    (hb : ∀ (s : Shared) (e : Value), X.K.In s.heap → BindsTo s fd ⟨e :: us, kw⟩ (ps.zip (e :: all))) (hus : us.length ≤ sizeLine)
    (r : Vals vs all) (hl : vs.length = fns.length)
    (h : ∀ a dx H', H a = none → H dx = none → dx ≠ a → H' dx = some (exd dx (fns.zip vs).reverse) → H' a = some (exo a C (some dx)) → (∀ b, b ≠ a → b ≠ dx → H' b = H b) → Q (.ref a) H') :
    wpAny (model X.prog X.w) X.A (call (.ref C) us kw) (EP X pins σ Q) X.xe s := by
  obtain ⟨nm, N, qn, bs, bm, hdct, sn, sub, ab, col, dd, k0, k1, k2, k3, k5, hC, hT⟩ := PySem.W.excInit_of I.kIn M.T.ini
  obtain ⟨hp, g, dr, tk, os⟩ := s
  have hsz : hp.objs.size ≤ hp.objs.size + 1 := Nat.le_succ _
  have hn : H (hp.objs.size + 1) = none := I.hok.fresh hsz
  have kk : ∀ b o, hp.get? b = some o → ((hp.push (PySem.W.kdv_tup us)).push (PySem.HandSPX.excO C hp.objs.size)).get? b = some o := fun b o z => Heap.get?_push_of_some _ (Heap.get?_push_of_some _ z)
  have hget : ((hp.push (PySem.W.kdv_tup us)).push (PySem.HandSPX.excO C hp.objs.size)).get? (hp.objs.size + 1) = some (PySem.HandSPX.excO C hp.objs.size) := by heap_get
  have J : Inv X pins σ (upd H (hp.objs.size + 1) (exo (hp.objs.size + 1) C none)) ⟨(hp.push (PySem.W.kdv_tup us)).push (PySem.HandSPX.excO C hp.objs.size), g, dr, tk, os⟩ :=
    I.laid (t' := tk) kk hsz (exo_ok hget)
  have sp : spErr C fns (.ref (hp.objs.size + 1) :: vs) (upd H (hp.objs.size + 1) (exo (hp.objs.size + 1) C none)) (fun v H2 => v = .non ∧ Q (.ref (hp.objs.size + 1)) H2) E0 := by
    refine ⟨_, vs, rfl, hl, upd_same, fun dx H' nd ne e1 e2 e3 => ⟨rfl, h _ dx H' hn ?_ ne e1 e2 fun b h1 h2 => ?_⟩⟩
    · rw [upd_ne ne] at nd
      exact nd
    · rw [e3 b h1 h2, upd_ne h1]
  have r2 : Vals (V.ref (hp.objs.size + 1) :: vs) (Value.ref (hp.objs.size + 1) :: all) := .cons rfl r
  refine wpAny_call (call_kw PySem.F.excBase_LookupError hT hC (PySem.W.looks_findIn I.kIn M.iC) (fun self => PySem.W.bind_fn I.kIn self M.tI) hus
    (codeAny_mono (M.F.run _ X.stack _ _ ⟨Value.ref (hp.objs.size + 1) :: us, kw⟩ (Value.ref (hp.objs.size + 1) :: all) _ _ E0 (hr.make C us kw) (J.env0.make C us kw) (hb _ _ J.kIn) r2 sp) fun r s' hq' => ?_))
  cases r with
  | error er => exact hx pins σ _ _ er s' J hq'
  | ok fl =>
    cases fl with
    | ret u =>
      obtain ⟨v, H', I3, rv, ev, q3⟩ := J.after hq'
      subst ev
      exact ⟨rv, ⟨V.ref (hp.objs.size + 1), H', I3, rfl, q3⟩⟩
    | next => exact False.elim hq'
    | brk => exact False.elim hq'
    | cont => exact False.elim hq'
theorem pe_new (M : MkE X CX k C fI fd ps fns) (hr : Room (k + 1) X.A) (hg : Gl X x) (hm : X.mg x = some (.ref C)) (hb : Binds X.K fd ps []) (hp : ps.length = fns.length + 1) (hx : Passes CX X E0)
    (ha : PA X (e :: es) ta) (hdb : (x == ("__debug__" : Str)) = false := by decide) (he : starEach (e :: es) X.env = (false, eval e X.env) :: starEach es X.env := by rfl)
    (hpl : (backTo pos (starEach es X.env)).any (·.1) = false := by rfl) : PE X (.Call (.Name x p) (e :: es) [] pos) (tNew C fns ta) := by
  refine ⟨fun pins s σ H Q I h => ?_⟩
  refine wpAny_Call_Name_kw (ld_glob I hg hm ?_ hdb)
  refine PySem.W.callWith_K (h₀ := X.base) I.ok.mod.kin M.T.kC (thn (ha.run pos pins s σ H _ I h) fun us s1 ⟨vs, H1, I1, r, hl, q⟩ => ⟨I1.kIn, ?_⟩) he hpl
  have lu : us.length = fns.length := r.length.symm.trans hl
  refine run_new (all := us) M hr hx I1 (fun s e0 X0 => ?_) (by show us.length ≤ sizeLine; rw [lu, sizeLine_eq]; have := M.few; omega) r hl q
  have b := hb s (e0 :: us) X0 (by rw [List.append_nil, List.length_cons, lu, hp])
  rw [List.append_nil] at b
  exact b
/-- C(k = e, ..): g puts the keywords' values in the order of the parameters -/
theorem pe_newK {kws : List Keyword} {ks : List Str} {tk : TA} {g : {α : Type} → List α → List α} (M : MkE X CX k C fI fd ps fns) (hr : Room (k + 1) X.A) (hg : Gl X x) (hm : X.mg x = some (.ref C))
    (hb : ∀ (s : Shared) (e : Value) (ws : List Value), X.K.In s.heap → ws.length = fns.length → BindsTo s fd ⟨[e], ks.zip ws⟩ (ps.zip (e :: g ws)))
    (hrel : ∀ {zs : List V} {ws : List Value}, Vals zs ws → zs.length = fns.length → Vals (g zs) (g ws)) (hlen : ∀ zs : List V, zs.length = fns.length → (g zs).length = fns.length) (hx : Passes CX X E0)
    (hkw : PK X kws tk) (hall : (backToKw pos (keywordEach kws X.env)).all (·.1.isSome) = true := by rfl) (hks : (backToKw pos (keywordEach kws X.env)).filterMap (·.1) = ks := by rfl)
    (hdb : (x == ("__debug__" : Str)) = false := by decide)
    (hpl : ((backTo pos (starEach [] X.env)).any (·.1) || (backToKw pos (keywordEach kws X.env)).any (·.1.isNone)) = false := by rfl) :
    PE X (.Call (.Name x p) [] kws pos) (tNew C fns fun σ H Q => tk σ H fun zs H1 => zs.length = fns.length ∧ Q (g zs) H1) := by
  refine ⟨fun pins s σ H Q I h => ?_⟩
  refine wpAny_Call_Name_kw (ld_glob I hg hm ?_ hdb)
  refine PySem.W.callWith_KW0 (h₀ := X.base) I.ok.mod.kin M.T.kC hall ?_ hpl
  refine thn (hkw.run pos pins s σ H _ I h) fun ws s2 ⟨zs, H2, I2, rz, lz, l2, q2⟩ => ⟨I2.kIn, ?_⟩
  rw [hks]
  exact run_new (us := []) (all := g ws) M hr hx I2 (fun s e0 X0 => hb s e0 ws X0 (rz.length.symm.trans lz)) (by show 0 ≤ sizeLine; exact Nat.zero_le _) (hrel rz lz) l2 q2
/-- e.f, e an own error -/
def tEf (C : Addr) (f : Str) (te : TE) : TE := fun σ H Q => te σ H fun x H1 => ∃ (a dx : Addr) (fs : List (Str × V)) (v : V), x = .ref a ∧ H1 a = some (exo a C (some dx)) ∧ H1 dx = some (exd dx fs) ∧ fs.lookup f = some v ∧ Q v H1
theorem pe_ef {te : TE} {f : Str} (T : ErrC X.K C) (hno : PySem.W.findIn X.K (.ref C) f = some none) (he : PE X e te)
    (hb : attributeBase e f X.env (eval e X.env) = eval e X.env := by rfl) : PE X (.Attribute e f pos) (tEf C f te) := by
  refine ⟨fun pins s σ H Q I h => ?_⟩
  refine attr_of hb (thn (he.run pins s σ H _ I h) fun u s1 hh => ?_)
  obtain ⟨x, H1, I1, rx, a, dx, fs, v, ex, ea, ed, l, q⟩ := hh
  subst ex
  obtain rfl : u = Value.ref a := rx
  obtain ⟨t1, ho⟩ := exo_at I1.hok ea
  obtain ⟨mA, hns, hr⟩ := exd_at I1.hok ed
  obtain ⟨od, hod, hl⟩ := lookIn_ns hns
  obtain ⟨u, hu, ru⟩ := RelO.some_of (v := v) (o := mA f) (by rw [← l]; exact hr f)
  have J : PySem.W.InstAt s1.heap a _ C (some od) := ⟨ho, rfl, rfl, hod⟩
  exact HandSPX.exc_get I1.kIn J T.ga T.gg T.exC (PySem.W.findObj_own T.hdC hno rfl (by rw [hl, hu])) (handed_of ru) ⟨v, H1, I1.tok _, ru, q⟩
end
end L2

set_option Elab.async false
set_option maxRecDepth 100000
set_option maxHeartbeats 4000000
set_option linter.all false
namespace L2
open PySem PySem.Spec PyProof.Rows
/-! ### isinstance of an own error that has its dict -/
def rIsErr (K : PySem.W.Frag) (C : Addr) : List V → Hp → VK → Prop := fun xs H Q => ∃ (a dx : Addr) (fs : List (Str × V)) (c : V) (u : Value) (b : Bool),
  xs = [.ref a, c] ∧ H a = some (exo a C (some dx)) ∧ H dx = some (exd dx fs) ∧ ClsV c u ∧ PySem.W.kitOne K (.ref C) u = some b ∧ Q (.bl b) H
theorem call_isErr {X : Cx} {C : Addr} (T : ErrC X.K C) : CallR X (.builtin "isinstance") (rIsErr X.K C) := by
  intro pins s σ H xs us Q I r h
  obtain ⟨a, dx, fs, c, u, b, rfl, ea, ed, k, e, q⟩ := h
  obtain ⟨u1, u2, rfl, r1, r2⟩ := vals2 r
  cases (show u1 = Value.ref a from r1)
  have e2 := k.eq r2
  subst e2
  obtain ⟨t1, ho⟩ := exo_at I.hok ea
  obtain ⟨mA, hns, hr⟩ := exd_at I.hok ed
  obtain ⟨od, hod, hl⟩ := lookIn_ns hns
  have J : PySem.W.InstAt s.heap a _ C (some od) := ⟨ho, rfl, rfl, hod⟩
  obtain ⟨cd, hcd, _⟩ := PySem.W.any_some T.hdC
  exact PySem.W.kia_one (PySem.W.kitx_exc (by rw [hcd]; rfl) T.ga T.gg T.exC T.ca T.cg T.ct T.cm) I.kIn J e (fun z => nomatch z) fun tk => ⟨.bl b, H, I.tok tk, rfl, q⟩
/-! ### a power of a greater number -/
def CPowW (i j : Int) : Prop := i.natAbs.log2 < 1000 ∧ 0 ≤ j ∧ j ≤ 1000
theorem op_powW {X : Cx} : OpR X (binaryOp .Pow) (rI CPowW fun i j => .int (i ^ j.toNat)) := opI fun i j t u s Q E hc q => by
  obtain ⟨h1, h2, h3⟩ := hc
  have z : bitsLine = 134217728 := by decide
  have b : Builtin.Int.intBits i ≤ i.natAbs.log2 + 1 := by
    unfold Builtin.Int.intBits
    split <;> omega
  refine pow_int h2 ?_ q
  have c : (Builtin.Int.intBits i : Int) ≤ 1000 := by omega
  have m := Int.mul_le_mul c h3 h2 (by decide : (0 : Int) ≤ 1000)
  exact Int.le_trans m (by decide)
end L2
namespace He
open PySem PySem.Spec PyProof.Rows L2
/-! ### own errors by the head -/
/-- what the head tells of an own error class -/
def errB (K : PySem.W.Frag) (C : Addr) : Bool :=
  PySem.W.excInitIn K C leTail "LookupError.__new__" && (PySem.W.excOver K C leTail &&
  (eqO (PySem.W.findIn K (.ref C) "__setattr__") (some (some (.builtin "object.__setattr__"))) &&
  (eqO (PySem.W.findIn K (.ref C) "__getattribute__") (some (some (.builtin "BaseException.__getattribute__"))) &&
  (eqO (PySem.W.findIn K (.ref C) "__getattr__") (some none) &&
  (decide (PySem.W.subIn K (.ref C) (.type "BaseException") = some true) && (decide (PySem.W.typeIn K (.ref C) = some (.type "type")) &&
  (PySem.W.keepIn K (.ref C) && (PySem.W.hasDictIn K C &&
  (eqO (PySem.W.findIn K (.ref C) "__class__") (some (some (.builtin "object.__class__"))) &&
  (eqO (PySem.W.specialIn K (.builtin "object.__class__") "__get__") (some (some (.builtin "getset_descriptor.__get__"))) &&
  (decide (PySem.W.takesIn K (.builtin "object.__class__") = some true) && decide (PySem.W.mroIn K C (.type "object") = some true))))))))))))
theorem errB_ok {K : PySem.W.Frag} {C : Addr} (h : errB K C = true) : ErrC K C := by
  obtain ⟨h1, h⟩ := ba h
  obtain ⟨h2, h⟩ := ba h
  obtain ⟨h3, h⟩ := ba h
  obtain ⟨h4, h⟩ := ba h
  obtain ⟨h5, h⟩ := ba h
  obtain ⟨h6, h⟩ := ba h
  obtain ⟨h7, h⟩ := ba h
  obtain ⟨h8, h⟩ := ba h
  obtain ⟨h9, h⟩ := ba h
  obtain ⟨h10, h⟩ := ba h
  obtain ⟨h11, h⟩ := ba h
  obtain ⟨h12, h13⟩ := ba h
  exact ⟨h1, h2, eqO_ok h3, eqO_ok h4, eqO_ok h5, of_decide_eq_true h6, of_decide_eq_true h7, h8, h9, eqO_ok h10, eqO_ok h11, of_decide_eq_true h12, of_decide_eq_true h13⟩
/-- .. and of its __init__ -/
def iniB (K : PySem.W.Frag) (C : Addr) : Bool :=
  eqO (PySem.W.findIn K (.ref C) "__init__") (some (some (.ref (ma K C "__init__")))) &&
  decide (PySem.W.typeIn K (.ref (ma K C "__init__")) = some (.type "function"))
end He

set_option Elab.async false
set_option maxRecDepth 100000
set_option maxHeartbeats 4000000
set_option linter.all false
namespace L2
open PySem PySem.Spec PyProof.Rows
/-! ### a def of the module by its name -/
structure Def (P : Program) (w : World) (K : PySem.W.Frag) (mg : Str → Option Value) (base : Heap) (CX : CXT) (k : Nat) (x : Str) (ps : List Str) (sp : Sp) : Prop where
  ex : ∃ (f : Addr) (fd : FuncData), mg x = some (.ref f) ∧ PySem.W.keepIn K (.ref f) = true ∧ Binds K fd ps [] ∧ FnOk P w K mg base CX k f fd ps sp
section
variable {X : Cx} {CX : CXT} {k : Nat} {ps : List Str} {sp : Sp} {E : XK} {x : Str} {p pos : Pos} {e : Expr} {es : List Expr} {t : TA}
theorem pe_ref {a : Addr} {pos : Pos} (hg : Gl X x) (hm : X.mg x = some (.ref a)) (hd : (x == ("__debug__" : Str)) = false := by decide) : PE X (.Name x pos) (tC (.ref a)) :=
  pe_glob hg hm (show RelV (.ref a) (Value.ref a) from rfl) hd
theorem pe_fn (c : Def X.prog X.w X.K X.mg X.base CX k x ps sp) (hr : Room k X.A) (hg : Gl X x) (hx : Passes CX X E) (ha : PA X (e :: es) t)
    (hdb : (x == ("__debug__" : Str)) = false := by decide) (he : starEach (e :: es) X.env = (false, eval e X.env) :: starEach es X.env := by rfl)
    (hpl : (backTo pos (starEach es X.env)).any (·.1) = false := by rfl) : PE X (.Call (.Name x p) (e :: es) [] pos) (tCall sp [] E t) := by
  obtain ⟨f, fd, hm, hk, hb, F⟩ := c.ex
  exact pe_call F hr hg hm hk hb .nil hx ha hdb he hpl
theorem pe_fn0 (c : Def X.prog X.w X.K X.mg X.base CX k x ps sp) (hr : Room k X.A) (hg : Gl X x) (hx : Passes CX X E)
    (hdb : (x == ("__debug__" : Str)) = false := by decide) : PE X (.Call (.Name x p) [] [] pos) (tCall sp [] E tNil) := by
  obtain ⟨f, fd, hm, hk, hb, F⟩ := c.ex
  exact pe_call0 F hr hg hm hk hb .nil hx hdb
end
/-! ### __init__ of an own error: it stores what it is given -/
section
variable {P : Program} {w : World} {K : PySem.W.Frag} {mg : Str → Option Value} {base : Heap}
theorem ok_ini1 {C f : Addr} {fd : FuncData} {fn qual : Str} {params : Arguments} {scope : Scope} {p1 p2 p3 p4 : Pos}
    (F : FunD K "__init__" qual params [.Assign [.Attribute (.Name "self" p1) fn p2] (.Name fn p3) p4] scope [] [] f fd) (S : FnScope ["self", fn] ["self", fn] scope)
    (v1 : scope.names.lookup ("self" : Str) = some NameKind.local) (v2 : scope.names.lookup fn = some NameKind.local) (d1 : (fn == ("__debug__" : Str)) = false) (d2 : (fn == ("__classdict__" : Str)) = false)
    (T : ErrC K C) (hno : PySem.W.findIn K (.ref C) fn = some none) : FnOk P w K mg base CX0 1 f fd ["self", fn] (spErr C [fn]) := by
  refine F.ok S (fun vs H Q E h => ?_) (fun cdv A outer s H vs Q E hr h => ?_)
  · obtain ⟨a, ws, rfl, hl, _⟩ := h
    rw [List.length_cons, hl] <;> rfl
  · obtain ⟨a, ws, rfl, hl, ha, k⟩ := h
    obtain ⟨y, rfl⟩ : ∃ y, ws = [y] := by
      match ws, hl with
      | [y], _ => exact ⟨y, rfl⟩
    refine ⟨_, PSs.nox (pss_one (ps_put (pe_var (i := 0) rfl (.inl v1)) (pe_var (i := 1) rfl (.inl v2) d1 d2))), ?_⟩
    refine ⟨_, rfl, _, rfl, a, C, rfl, T, hno, .inl ⟨ha, fun dx nd ne => ?_⟩⟩
    refine k dx _ nd ne ?_ upd_same fun b h1 h2 => ?_
    · rw [upd_ne ne, upd_same]
      rfl
    · rw [upd_ne h1, upd_ne h2]
theorem ok_ini2 {C f : Addr} {fd : FuncData} {fn gn qual : Str} {params : Arguments} {scope : Scope} {p1 p2 p3 p4 q1 q2 q3 q4 : Pos}
    (F : FunD K "__init__" qual params [.Assign [.Attribute (.Name "self" p1) fn p2] (.Name fn p3) p4, .Assign [.Attribute (.Name "self" q1) gn q2] (.Name gn q3) q4] scope [] [] f fd)
    (S : FnScope ["self", fn, gn] ["self", fn, gn] scope)
    (v1 : scope.names.lookup ("self" : Str) = some NameKind.local) (v2 : scope.names.lookup fn = some NameKind.local) (v3 : scope.names.lookup gn = some NameKind.local)
    (d1 : (fn == ("__debug__" : Str)) = false) (d2 : (fn == ("__classdict__" : Str)) = false) (d3 : (gn == ("__debug__" : Str)) = false) (d4 : (gn == ("__classdict__" : Str)) = false)
    (T : ErrC K C) (hno : PySem.W.findIn K (.ref C) fn = some none) (hno2 : PySem.W.findIn K (.ref C) gn = some none) : FnOk P w K mg base CX0 1 f fd ["self", fn, gn] (spErr C [fn, gn]) := by
  refine F.ok S (fun vs H Q E h => ?_) (fun cdv A outer s H vs Q E hr h => ?_)
  · obtain ⟨a, ws, rfl, hl, _⟩ := h
    rw [List.length_cons, hl] <;> rfl
  · obtain ⟨a, ws, rfl, hl, ha, k⟩ := h
    obtain ⟨y, z, rfl⟩ : ∃ y z, ws = [y, z] := by
      match ws, hl with
      | [y, z], _ => exact ⟨y, z, rfl⟩
    refine ⟨_, PSs.nox (pss_cons (ps_put (pe_var (i := 0) rfl (.inl v1)) (pe_var (i := 1) rfl (.inl v2) d1 d2)) (pss_one (ps_put (pe_var (i := 0) rfl (.inl v1)) (pe_var (i := 2) rfl (.inl v3) d3 d4)))), ?_⟩
    refine ⟨_, rfl, _, rfl, a, C, rfl, T, hno, .inl ⟨ha, fun dx nd ne => ?_⟩⟩
    have e1 : upd (upd H dx (exd dx [(fn, y)])) a (exo a C (some dx)) dx = some (exd dx [(fn, y)]) := by
      rw [upd_ne ne, upd_same]
    refine ⟨_, rfl, _, rfl, a, C, rfl, T, hno2, .inr ⟨dx, _, upd_same, e1, by show 1 ≤ 900; decide, ?_⟩⟩
    refine k dx _ nd ne ?_ ?_ fun b h1 h2 => ?_
    · rw [upd_same]
      rfl
    · rw [upd_ne (Ne.symm ne), upd_same]
    · rw [upd_ne h2, upd_ne h1, upd_ne h2]
end
theorem Same.new {H : Hp} {p : Addr} {o : HO} (h : H p = none) : Same H (upd H p o) := fun b u e => by
  rw [upd_ne (ne_of_none e h)]
  exact e
/-! ### ways joined -/
theorem tchainC {f g : Int → Int → Bool} {c i j : Int} {ta tb : TE} {σ : St} {H : Hp} {Q : VK} (ha : Val ta σ H (.int i)) (hb : Val tb σ H (.int j)) (h : Q (.bl (f i j && g j c)) H) :
    tChain (rI0 fun i j => .bl (f i j)) (rI0 fun i j => .bl (g i j)) ta tb (tC (.int c)) σ H Q := by
  refine ha _ (hb _ ⟨i, j, rfl, rfl, f i j, rfl, ?_⟩)
  cases e : f i j with
  | true =>
    rw [e] at h
    exact iteT ⟨j, c, rfl, rfl, h⟩
  | false =>
    rw [e] at h
    exact iteF h
theorem iteF' {c : Bool} {A B : Prop} (hc : c = false) (h : B) : if c = true then A else B := by
  rw [hc]
  exact iteF h
theorem iteT' {c : Bool} {A B : Prop} (hc : c = true) (h : A) : if c = true then A else B := by
  rw [hc]
  exact iteT h
/-! ### an own error by the name of its class -/
structure ErrDef (P : Program) (w : World) (K : PySem.W.Frag) (mg : Str → Option Value) (base : Heap) (CX : CXT) (k : Nat) (x : Str) (C : Addr) (ps fns : List Str) : Prop where
  ex : ∃ (fI : Addr) (fd : FuncData), mg x = some (.ref C) ∧ ErrC K C ∧ PySem.W.findIn K (.ref C) "__init__" = some (some (.ref fI)) ∧ PySem.W.typeIn K (.ref fI) = some (.type "function") ∧
    Binds K fd ps [] ∧ (∀ (s : Shared) (e : Value) (ws : List Value), K.In s.heap → ws.length = fns.length → BindsTo s fd ⟨[e], fns.reverse.zip ws⟩ (ps.zip (e :: ws.reverse))) ∧
    FnOk P w K mg base CX k fI fd ps (spErr C fns) ∧ fns.length ≤ 1000 ∧ ps.length = fns.length + 1
section
variable {X : Cx} {CX : CXT} {k : Nat} {C : Addr} {ps fns : List Str} {x : Str} {p pos : Pos} {e : Expr} {es : List Expr} {ta : TA}
theorem pe_err (c : ErrDef X.prog X.w X.K X.mg X.base CX k x C ps fns) (hr : Room (k + 1) X.A) (hg : Gl X x) (hx : Passes CX X E0) (ha : PA X (e :: es) ta)
    (hdb : (x == ("__debug__" : Str)) = false := by decide) (he : starEach (e :: es) X.env = (false, eval e X.env) :: starEach es X.env := by rfl)
    (hpl : (backTo pos (starEach es X.env)).any (·.1) = false := by rfl) : PE X (.Call (.Name x p) (e :: es) [] pos) (tNew C fns ta) := by
  obtain ⟨fI, fd, hm, T, iC, tI, hb, _, F, few, hp⟩ := c.ex
  exact pe_new (CX := CX) (k := k) (fI := fI) (fd := fd) (ps := ps) ⟨T, iC, tI, F, few⟩ hr hg hm hb hp hx ha hdb he hpl
/-- the keywords in turned order -/
theorem pe_errK {kws : List Keyword} {tk : TA} (c : ErrDef X.prog X.w X.K X.mg X.base CX k x C ps fns) (hr : Room (k + 1) X.A) (hg : Gl X x) (hx : Passes CX X E0)
    (hkw : PK X kws tk) (hall : (backToKw pos (keywordEach kws X.env)).all (·.1.isSome) = true := by rfl) (hks : (backToKw pos (keywordEach kws X.env)).filterMap (·.1) = fns.reverse := by rfl)
    (hdb : (x == ("__debug__" : Str)) = false := by decide)
    (hpl : ((backTo pos (starEach [] X.env)).any (·.1) || (backToKw pos (keywordEach kws X.env)).any (·.1.isNone)) = false := by rfl) :
    PE X (.Call (.Name x p) [] kws pos) (tNew C fns fun σ H Q => tk σ H fun zs H1 => zs.length = fns.length ∧ Q zs.reverse H1) := by
  obtain ⟨fI, fd, hm, T, iC, tI, _, hb, F, few, hp⟩ := c.ex
  exact pe_newK (CX := CX) (k := k) (fI := fI) (fd := fd) (ps := ps) (ks := fns.reverse) (g := List.reverse) ⟨T, iC, tI, F, few⟩ hr hg hm hb (fun r _ => r.reverse) (fun zs h => by rw [List.length_reverse, h]) hx hkw hall hks hdb hpl
end
theorem nx_ {t b c : St → Hp → Prop} {r : VK} {σ : St} {H : Hp} (h : t σ H) : ({ nx := t, rt := r, bk := b, ct := c } : Ends).nx σ H := h
end L2

set_option Elab.async false
set_option maxRecDepth 100000
set_option maxHeartbeats 4000000
set_option linter.all false
/-! tokens and what is gone over of a history: the mathematics of k13 -/
namespace K13
open PySem PySem.Spec PyProof.Rows L2
inductive Tok where
  | begin (w : Str) | answer (n : Nat) (w : Str) | rang (n : Nat) | signal (a b : Str)
  | asked (w : Str) | set | dropped (n : Nat) | noted (w : Str) | marked (w : Str) | ended (w : Str) | anew (w : Str)
namespace Tok
def head : Tok → Str
  | .begin _ => "begin" | .answer _ _ => "answer" | .rang _ => "rang" | .signal _ _ => "signal" | .asked _ => "asked" | .set => "set"
  | .dropped _ => "dropped" | .noted _ => "noted" | .marked _ => "marked" | .ended _ => "ended" | .anew _ => "anew"
def rest : Tok → List V
  | .begin w => [.str w] | .answer n w => [.int n, .str w] | .rang n => [.int n] | .signal a b => [.str a, .str b] | .asked w => [.str w] | .set => []
  | .dropped n => [.int n] | .noted w => [.str w] | .marked w => [.str w] | .ended w => [.str w] | .anew w => [.str w]
def words : Tok → List Str
  | .begin w => [w] | .answer _ w => [w] | .rang _ => [] | .signal a b => [a, b] | .asked w => [w] | .set => []
  | .dropped _ => [] | .noted w => [w] | .marked w => [w] | .ended w => [w] | .anew w => [w]
def vals (t : Tok) : List V := .str t.head :: t.rest
def outer : Tok → Bool
  | .begin _ => true | .answer _ _ => true | .rang _ => true | .signal _ _ => true | _ => false
def num? : Tok → Option Nat
  | .answer n _ => some n | .rang n => some n | .dropped n => some n | _ => none
def withN : Tok → Nat → Tok
  | .answer _ w, n => .answer n w | .rang _, n => .rang n | .dropped _, n => .dropped n | t, _ => t
def start? : Tok → Option Bool
  | .asked _ => some true | .set => some false | _ => none
def last : Tok → Bool
  | .ended _ => true | .anew _ => true | _ => false
def isBegin : Tok → Bool
  | .begin _ => true | _ => false
end Tok
structure S where
  run : List Nat
  kinds : List Bool
  ths : List Nat
  len : Nat
  fin : Bool
def s0 : S := ⟨[], [], [], 0, false⟩
def kindOk (s : S) : Tok → Bool
  | .answer n _ => s.run.contains n && s.kinds[n]? == some true
  | .rang n => s.run.contains n && s.kinds[n]? == some false
  | .dropped n => s.run.contains n
  | _ => true
def may (s : S) (t : Tok) : Bool := !s.fin && (t.isBegin == (s.len == 0) && kindOk s t)
def bt (s : S) : S := { s with ths := s.run }
def ths0 (s : S) (t : Tok) : List Nat := if t.outer then s.run else s.ths
def go (s : S) (t : Tok) : S :=
  match t.start? with
  | some k => ⟨s.run ++ [s.kinds.length], s.kinds ++ [k], ths0 s t ++ [s.kinds.length], s.len + 1, t.last⟩
  | none => match t.num? with
    | some n => ⟨s.run.erase n, s.kinds, ths0 s t, s.len + 1, t.last⟩
    | none => ⟨s.run, s.kinds, ths0 s t, s.len + 1, t.last⟩
def age (s : S) (t : Tok) : Tok := match t.num? with
  | some n => t.withN ((ths0 s t).idxOf n)
  | none => t
def byNum (s : S) (t : Tok) : Option Tok := match t.num? with
  | some a => (s.ths[a]?).map t.withN
  | none => some t
/-- a history that may be gone over -/
def valid (s : S) : List Tok → Bool
  | [] => true
  | t :: r => may s t && valid (go s t) r
def goAll (s : S) : List Tok → S
  | [] => s
  | t :: r => goAll (go s t) r
def ageAll (s : S) : List Tok → List Tok
  | [] => []
  | t :: r => age s t :: ageAll (go s t) r
/-- the turns of a flat list -/
def cutOn (acc : List (List Tok)) (t : Tok) : List (List Tok) := if t.outer then acc ++ [[t]] else acc.dropLast ++ [(acc.getLastD []) ++ [t]]
def cutAll (ts : List Tok) : List (List Tok) := ts.foldl cutOn []
/-- what is read by age -/
def wToks (first : Bool) (s : S) (h : List Tok) : List (Option Tok) → Option (S × List Tok)
  | [] => some (s, h)
  | none :: _ => none
  | some t :: r => if t.outer != first then none else match byNum s t with
    | none => none
    | some u => if may s u then wToks false (go s u) (h ++ [u]) r else none
def wWalk (strict : Bool) (s : S) (h : List Tok) : List (Option (List (Option Tok))) → Option (List Tok)
  | [] => some h
  | none :: _ => none
  | some turn :: r => if strict && turn.isEmpty then none else match wToks true (bt s) h turn with
    | none => none
    | some (s', h') => wWalk strict s' h' r
def pBack (ts : List (Option (List (Option Tok)))) : Option (List Tok) := if ts.isEmpty then none else wWalk true s0 [] ts
def lift (ts : List (List Tok)) : List (Option (List (Option Tok))) := ts.map fun t => some (t.map some)
def lBack (ts : List (List Tok)) : Option (List Tok) := match wWalk false s0 [] (lift ts) with
  | none => none
  | some h => if ts.any List.isEmpty || h.isEmpty then none else some h
/-! ### both ways to go back agree -/
theorem wToks_len {first : Bool} : ∀ {ts : List (Option Tok)} {first : Bool} {s s' : S} {h h' : List Tok}, wToks first s h ts = some (s', h') → h'.length = h.length + ts.length
  | [], _, _, _, _, _, e => by
    simp only [wToks, Option.some.injEq, Prod.mk.injEq] at e
    rw [← e.2]; rfl
  | none :: _, _, _, _, _, _, e => by simp [wToks] at e
  | some t :: r, first, s, s', h, h', e => by
    simp only [wToks] at e
    split at e
    · cases e
    · split at e
      · cases e
      · split at e
        · have := wToks_len (first := false) e
          simp only [List.length_append, List.length_cons, List.length_nil] at this ⊢
          omega
        · cases e
theorem walk_strict {ts : List (List Tok)} (he : ts.any List.isEmpty = false) : ∀ (s : S) (h : List Tok), wWalk true s h (lift ts) = wWalk false s h (lift ts) := by
  induction ts with
  | nil => intros; rfl
  | cons t r ih =>
    intro s h
    simp only [List.any_cons, Bool.or_eq_false_iff] at he
    have e1 : (t.map some).isEmpty = false := by
      cases t with
      | nil => simp at he
      | cons a b => rfl
    simp only [lift, List.map_cons, wWalk, e1, Bool.and_false, Bool.false_eq_true, if_false]
    split
    · rfl
    · exact ih he.2 _ _
theorem walk_empty {ts : List (List Tok)} (he : ts.any List.isEmpty = true) : ∀ (s : S) (h : List Tok), wWalk true s h (lift ts) = none := by
  induction ts with
  | nil => simp at he
  | cons t r ih =>
    intro s h
    cases t with
    | nil => rfl
    | cons a b =>
      have he' : r.any List.isEmpty = true := by simpa using he
      simp only [lift, List.map_cons, wWalk, List.isEmpty_cons, Bool.and_false, Bool.false_eq_true, if_false]
      split
      · rfl
      · exact ih he' _ _
theorem walk_len : ∀ {ts : List (List Tok)} {b : Bool} {s : S} {h h' : List Tok}, wWalk b s h (lift ts) = some h' → h'.length = h.length + (ts.map List.length).sum
  | [], _, _, _, _, e => by
    simp only [lift, List.map_nil, wWalk, Option.some.injEq] at e
    rw [← e]; rfl
  | t :: r, b, s, h, h', e => by
    simp only [lift, List.map_cons, wWalk] at e
    split at e
    · cases e
    · split at e
      · cases e
      · rename_i s2 h2 q
        have l1 := wToks_len (first := true) q
        have l2 := walk_len (ts := r) e
        simp only [List.length_map] at l1
        simp only [List.map_cons, List.sum_cons]
        omega
theorem pBack_lift (ts : List (List Tok)) : pBack (lift ts) = lBack ts := by
  unfold pBack lBack
  cases ts with
  | nil => rfl
  | cons t r =>
    have e0 : (lift (t :: r)).isEmpty = false := rfl
    rw [e0]
    simp only [Bool.false_eq_true, if_false]
    cases he : (t :: r).any List.isEmpty with
    | true =>
      rw [walk_empty he]
      split <;> simp
    | false =>
      rw [walk_strict he]
      cases q : wWalk false s0 [] (lift (t :: r)) with
      | none => rfl
      | some h =>
        have l := walk_len q
        have : h.isEmpty = false := by
          cases h with
          | nil =>
            cases t with
            | nil => simp at he
            | cons a b =>
              simp only [List.length_nil, List.map_cons, List.sum_cons, List.length_cons] at l
              omega
          | cons a b => rfl
        simp [this]

/-! ### what is told by age is read back -/
def cutR : List Tok → List Tok × List (List Tok)
  | [] => ([], [])
  | t :: r => if t.outer then ([], (t :: (cutR r).1) :: (cutR r).2) else (t :: (cutR r).1, (cutR r).2)
theorem foldl_cut : ∀ (ts : List Tok) (acc : List (List Tok)) (l : List Tok), ts.foldl cutOn (acc ++ [l]) = acc ++ [l ++ (cutR ts).1] ++ (cutR ts).2
  | [], acc, l => by simp [cutR]
  | t :: r, acc, l => by
    rw [List.foldl_cons]
    cases e : t.outer with
    | true =>
      have e1 : cutOn (acc ++ [l]) t = (acc ++ [l]) ++ [[t]] := by simp [cutOn, e]
      rw [e1, foldl_cut r]
      simp [cutR, e]
    | false =>
      have e1 : cutOn (acc ++ [l]) t = acc ++ [l ++ [t]] := by simp [cutOn, e]
      rw [e1, foldl_cut r]
      simp [cutR, e]
theorem cutAll_R {t : Tok} {r : List Tok} (e : t.outer = true) : cutAll (t :: r) = (cutR (t :: r)).2 := by
  have e1 : cutOn [] t = [] ++ [[t]] := by simp [cutOn, e]
  unfold cutAll
  rw [List.foldl_cons, e1, foldl_cut]
  simp [cutR, e]
/-- a state that can be: the open things are among those with an age -/
structure Good (s : S) : Prop where
  sub : ∀ n ∈ s.run, n ∈ s.ths
  srt : s.ths.Pairwise (· < ·)
  srr : s.run.Pairwise (· < ·)
  few : ∀ n ∈ s.ths, n < s.kinds.length
theorem good0 : Good s0 := ⟨by simp [s0], by simp [s0], by simp [s0], by simp [s0]⟩
theorem Good.few' {s : S} (g : Good s) : ∀ n ∈ s.run, n < s.kinds.length := fun n h => g.few n (g.sub n h)
theorem Good.bt {s : S} (g : Good s) : Good (bt s) := ⟨fun n h => h, g.srr, g.srr, g.few'⟩
theorem Good.ths0 {s : S} (g : Good s) (t : Tok) : (ths0 s t).Pairwise (· < ·) ∧ (∀ n ∈ s.run, n ∈ ths0 s t) ∧ ∀ n ∈ ths0 s t, n < s.kinds.length := by
  unfold K13.ths0
  split
  · exact ⟨g.srr, fun n h => h, g.few'⟩
  · exact ⟨g.srt, g.sub, g.few⟩
theorem Good.go {s : S} (g : Good s) (t : Tok) : Good (go s t) := by
  obtain ⟨h1, h2, h3⟩ := g.ths0 t
  unfold K13.go
  split
  · refine ⟨fun n h => ?_, ?_, ?_, fun n h => ?_⟩
    · rcases List.mem_append.mp h with h | h
      · exact List.mem_append_left _ (h2 n h)
      · exact List.mem_append_right _ h
    · refine List.pairwise_append.mpr ⟨h1, by simp, fun a ha b hb => ?_⟩
      rw [List.mem_singleton.mp hb]
      exact h3 a ha
    · refine List.pairwise_append.mpr ⟨g.srr, by simp, fun a ha b hb => ?_⟩
      rw [List.mem_singleton.mp hb]
      exact g.few' a ha
    · show n < (s.kinds ++ [_]).length
      rw [List.length_append]
      rcases List.mem_append.mp h with h | h
      · have := h3 n h
        simp; omega
      · rw [List.mem_singleton.mp h]
        simp
  · split
    · exact ⟨fun n h => h2 n (List.mem_of_mem_erase h), h1, g.srr.sublist List.erase_sublist, h3⟩
    · exact ⟨h2, h1, g.srr, h3⟩
theorem withN_num {t : Tok} {n : Nat} (e : t.num? = some n) (a : Nat) : (t.withN a).num? = some a ∧ (t.withN a).withN n = t ∧ (t.withN a).outer = t.outer := by
  cases t <;> simp_all [Tok.num?, Tok.withN, Tok.outer]
theorem age_outer (s : S) (t : Tok) : (age s t).outer = t.outer := by
  unfold age
  split
  · rename_i n e
    exact (withN_num e _).2.2
  · rfl
theorem kind_run {s : S} {t : Tok} {n : Nat} (e : t.num? = some n) (k : kindOk s t = true) : n ∈ s.run := by
  cases t <;> simp_all [Tok.num?, kindOk]
theorem may_kind {s : S} {t : Tok} (h : may s t = true) : kindOk s t = true ∧ s.fin = false ∧ t.isBegin = (s.len == 0) := by
  simp only [may, Bool.and_eq_true, Bool.not_eq_true', beq_iff_eq] at h
  exact ⟨h.2.2, h.1, h.2.1⟩
theorem get_idx {l : List Nat} {n : Nat} (h : n ∈ l) : l[l.idxOf n]? = some n := by
  have hl := List.idxOf_lt_length_of_mem h
  rw [List.getElem?_eq_getElem hl, List.getElem_idxOf hl]
theorem byNum_age {s : S} {t : Tok} (g : Good s) (m : may s t = true) (ht : ths0 s t = s.ths) : byNum s (age s t) = some t := by
  unfold age
  split
  · rename_i n e
    obtain ⟨h1, h2, _⟩ := withN_num e ((ths0 s t).idxOf n)
    unfold byNum
    rw [h1]
    show (s.ths[(ths0 s t).idxOf n]?).map _ = _
    rw [ht, get_idx (g.sub n (kind_run e (may_kind m).1)), Option.map_some]
    rw [ht] at h2
    rw [h2]
  · rename_i e
    unfold byNum
    rw [e]
theorem may_bt (s : S) (t : Tok) : may (bt s) t = may s t := by
  cases t <;> rfl
theorem go_bt {s : S} {t : Tok} (e : t.outer = true) : go (bt s) t = go s t := by
  unfold go ths0 bt
  simp only [e, if_true]
theorem back_age : ∀ (h : List Tok) (s : S) (hh : List Tok), Good s → valid s h = true →
    ∃ s' h', wToks false s hh ((cutR (ageAll s h)).1.map some) = some (s', h') ∧ wWalk true s' h' (lift (cutR (ageAll s h)).2) = some (hh ++ h)
  | [], s, hh, _, _ => ⟨s, hh, rfl, by simp [ageAll, cutR, lift, wWalk]⟩
  | t :: r, s, hh, g, v => by
    simp only [valid, Bool.and_eq_true] at v
    obtain ⟨m, v⟩ := v
    obtain ⟨s', h', e1, e2⟩ := back_age r (go s t) (hh ++ [t]) (g.go t) v
    have eo := age_outer s t
    cases o : t.outer with
    | false =>
      rw [o] at eo
      have ht : ths0 s t = s.ths := by simp [ths0, o]
      refine ⟨s', h', ?_, ?_⟩
      · simp only [ageAll, cutR, eo, Bool.false_eq_true, if_false, List.map_cons, wToks, byNum_age g m ht, m, if_true, bne_self_eq_false]
        exact e1
      · simp only [ageAll, cutR, eo, Bool.false_eq_true, if_false]
        rw [e2]
        simp
    | true =>
      rw [o] at eo
      have ht : ths0 (bt s) t = (bt s).ths := by simp [ths0, o, bt]
      have ea : age s t = age (bt s) t := by
        unfold age ths0
        simp [o, bt]
      refine ⟨s, hh, ?_, ?_⟩
      · simp only [ageAll, cutR, eo, if_true, List.map_nil, wToks]
      · simp only [ageAll, cutR, eo, if_true, lift, List.map_cons, wWalk, List.isEmpty_cons, Bool.and_false, Bool.false_eq_true, if_false, wToks, bne_self_eq_false]
        rw [ea, byNum_age g.bt (by rw [may_bt]; exact m) ht]
        simp only [may_bt, m, if_true, go_bt o]
        rw [e1]
        simp only [lift] at e2
        exact e2.trans (by simp)
def ageTurns (s : S) : List (List Tok) → List (List Tok)
  | [] => []
  | t :: r => ageAll s t :: ageTurns (goAll s t) r
theorem age_cut : ∀ (h : List Tok) (s : S), cutR (ageAll s h) = (ageAll s (cutR h).1, ageTurns (goAll s (cutR h).1) (cutR h).2)
  | [], s => rfl
  | t :: r, s => by
    have eo := age_outer s t
    have ih := age_cut r (go s t)
    cases o : t.outer with
    | false =>
      rw [o] at eo
      simp only [ageAll, cutR, eo, o, Bool.false_eq_true, if_false, ih, goAll]
    | true =>
      rw [o] at eo
      simp only [ageAll, cutR, eo, o, if_true, ih, goAll, ageTurns]
theorem begin_outer {t : Tok} {r : List Tok} (v : valid s0 (t :: r) = true) : t.outer = true := by
  simp only [valid, Bool.and_eq_true] at v
  have := (may_kind v.1).2.2
  cases t <;> simp_all [Tok.isBegin, Tok.outer, s0]
theorem round_trip {h : List Tok} (ne : h ≠ []) (v : valid s0 h = true) : pBack (lift (cutAll (ageAll s0 h))) = some h := by
  cases h with
  | nil => exact absurd rfl ne
  | cons t r =>
    have o := begin_outer v
    have eo := age_outer s0 t
    rw [o] at eo
    obtain ⟨s', h', e1, e2⟩ := back_age (t :: r) s0 [] good0 v
    have e3 : cutAll (ageAll s0 (t :: r)) = (cutR (ageAll s0 (t :: r))).2 := cutAll_R (t := age s0 t) eo
    have e4 : (cutR (ageAll s0 (t :: r))).1 = [] := by simp [ageAll, cutR, eo]
    rw [e4] at e1
    simp only [List.map_nil, wToks, Option.some.injEq, Prod.mk.injEq] at e1
    rw [← e1.1, ← e1.2] at e2
    unfold pBack
    rw [e3]
    have e5 : (lift (cutR (ageAll s0 (t :: r))).2).isEmpty = false := by simp [ageAll, cutR, eo, lift]
    rw [e5]
    exact e2
theorem aged_eq {h : List Tok} (ne : h ≠ []) (v : valid s0 h = true) : ageTurns s0 (cutAll h) = cutAll (ageAll s0 h) := by
  cases h with
  | nil => exact absurd rfl ne
  | cons t r =>
    have o := begin_outer v
    have eo := age_outer s0 t
    rw [o] at eo
    have e3 : cutAll (ageAll s0 (t :: r)) = (cutR (ageAll s0 (t :: r))).2 := cutAll_R (t := age s0 t) eo
    rw [e3, age_cut, cutAll_R o]
    have e4 : (cutR (t :: r)).1 = [] := by simp [cutR, o]
    rw [e4]
    rfl
end K13

set_option Elab.async false
set_option maxRecDepth 100000
set_option maxHeartbeats 4000000
set_option linter.all false
namespace L2
open PySem PySem.Spec PyProof.Rows
/-! ### raise C(e, ..), C an own error over LookupError with its own __init__ -/
def tMkE (C : Addr) (fns : List Str) (ta : TA) : St → Hp → XK → Prop := fun σ H Q => ta σ H fun vs H1 => vs.length = fns.length ∧
  ∀ d H', H1 d = none → H' d = some (.xd (fns.zip vs).reverse) → (∀ b, b ≠ d → H' b = H1 b) → Q (.ref C) (some d) H'
section
variable {X : Cx} {CX : CXT} {k : Nat} {C : Addr} {ps fns : List Str} {x : Str} {p pos : Pos} {e : Expr} {es : List Expr} {ta : TA}
theorem pmk_errL (c : ErrDef X.prog X.w X.K X.mg X.base CX k x C ps fns) (hr : Room (k + 1) X.A) (hg : Gl X x) (hx : Passes CX X E0) (ha : PA X (e :: es) ta)
    (hdb : (x == ("__debug__" : Str)) = false := by decide) (he : starEach (e :: es) X.env = (false, eval e X.env) :: starEach es X.env := by rfl)
    (hpl : (backTo pos (starEach es X.env)).any (·.1) = false := by rfl) : PMk X (.Call (.Name x p) (e :: es) [] pos) (tMkE C fns ta) := by
  obtain ⟨fI, fd, hm, T, iC, tI, hb, _, F, few, hp⟩ := c.ex
  intro pins s σ H Q I h
  refine wpAny_Call_Name_kw (ld_glob I hg hm ?_ hdb)
  refine PySem.W.callWith_K (h₀ := X.base) I.ok.mod.kin T.kC (thn (ha.run pos pins s σ H _ I h) fun us s1 ⟨vs, H1, I1, r, hl, q⟩ => ⟨I1.kIn, ?_⟩) he hpl
  have lu : us.length = fns.length := r.length.symm.trans hl
  obtain ⟨nm, N, qn, bs, bm, hdct, sn, sub, ab, col, dd, k0, k1, k2, k3, k5, hC, hT⟩ := PySem.W.excInit_of I1.kIn T.ini
  show wpAny _ _ (call (.ref C) us) _ _ _
  obtain ⟨hp0, g, dr, tk, os⟩ := s1
  have hsz : hp0.objs.size ≤ hp0.objs.size + 1 := Nat.le_succ _
  have hn : H1 (hp0.objs.size + 1) = none := I1.hok.fresh hsz
  have kk : ∀ b o, hp0.get? b = some o → ((hp0.push (PySem.W.kdv_tup us)).push (PySem.HandSPX.excO C hp0.objs.size)).get? b = some o := fun b o z => Heap.get?_push_of_some _ (Heap.get?_push_of_some _ z)
  have hget : ((hp0.push (PySem.W.kdv_tup us)).push (PySem.HandSPX.excO C hp0.objs.size)).get? (hp0.objs.size + 1) = some (PySem.HandSPX.excO C hp0.objs.size) := by heap_get
  have J : Inv X pins σ (upd H1 (hp0.objs.size + 1) (exo (hp0.objs.size + 1) C none)) ⟨(hp0.push (PySem.W.kdv_tup us)).push (PySem.HandSPX.excO C hp0.objs.size), g, dr, tk, os⟩ :=
    I1.laid (t' := tk) kk hsz (exo_ok hget)
  have sp : spErr C fns (.ref (hp0.objs.size + 1) :: vs) (upd H1 (hp0.objs.size + 1) (exo (hp0.objs.size + 1) C none)) (fun v H2 => v = .non ∧ ∃ d, H1 d = none ∧ H2 d = some (exd d (fns.zip vs).reverse) ∧
      H2 (hp0.objs.size + 1) = some (exo (hp0.objs.size + 1) C (some d)) ∧ d ≠ hp0.objs.size + 1 ∧ ∀ b, b ≠ hp0.objs.size + 1 → b ≠ d → H2 b = H1 b) E0 := by
    refine ⟨_, vs, rfl, hl, upd_same, fun dx H' nd ne e1 e2 e3 => ⟨rfl, dx, ?_, e1, e2, ne, fun b h1 h2 => ?_⟩⟩
    · rw [upd_ne ne] at nd
      exact nd
    · rw [e3 b h1 h2, upd_ne h1]
  have r2 : Vals (V.ref (hp0.objs.size + 1) :: vs) (Value.ref (hp0.objs.size + 1) :: us) := .cons rfl r
  have hbb : ∀ s0 : Shared, X.K.In s0.heap → BindsTo s0 fd ⟨Value.ref (hp0.objs.size + 1) :: us, []⟩ (ps.zip (Value.ref (hp0.objs.size + 1) :: us)) := fun s0 k0 => by
    have b := hb s0 (Value.ref (hp0.objs.size + 1) :: us) k0 (by rw [List.append_nil, List.length_cons, lu, hp])
    rw [List.append_nil] at b
    exact b
  refine wpAny_call (call_kw PySem.F.excBase_LookupError hT hC (PySem.W.looks_findIn I1.kIn iC) (fun self => PySem.W.bind_fn I1.kIn self tI) (by show us.length ≤ sizeLine; rw [lu, sizeLine_eq]; omega)
    (codeAny_mono (F.run _ X.stack _ _ ⟨Value.ref (hp0.objs.size + 1) :: us, []⟩ (Value.ref (hp0.objs.size + 1) :: us) _ _ E0 (hr.make C us []) (J.env0.make C us []) (hbb _ J.kIn) r2 sp) fun r s' hq' => ?_))
  cases r with
  | error er => exact hx pins σ _ _ er s' J hq'
  | ok fl =>
    cases fl with
    | ret u =>
      obtain ⟨v, H2, os2, bare2, un2, hok2, rv, ev, d, nd, ed, ea, dne, oth⟩ := hq'
      subst ev
      obtain ⟨h2, g2, d2, t2, os'⟩ := s'
      refine ⟨rv, mk_end (raises_own T.exC T.tyC) I1 hsz kk un2 hok2 os2 bare2 ea ed nd (q d _ nd upd_same fun b hb2 => ?_)⟩
      rw [upd_ne hb2]
      by_cases z : b = hp0.objs.size + 1
      · rw [z, del_same, hn]
      · rw [del_ne z, oth b z hb2]
    | next => exact False.elim hq'
    | brk => exact False.elim hq'
    | cont => exact False.elim hq'
end
/-! ### a method of the module's class by its name -/
structure MDef (P : Program) (w : World) (K : PySem.W.Frag) (mg : Str → Option Value) (base : Heap) (CX : CXT) (k : Nat) (C : Addr) (m : Str) (ps : List Str) (sp : Sp) : Prop where
  cl : Cls K C
  ex : ∃ (f : Addr) (fd : FuncData), Meth K C m f ∧ Binds K fd ps [] ∧ FnOk P w K mg base CX k f fd ps sp
section
variable {X : Cx} {CX : CXT} {k : Nat} {C : Addr} {ps : List Str} {sp : Sp} {E : XK} {m : Str} {o e : Expr} {es : List Expr} {to : TE} {t : TA} {apos pos : Pos}
theorem pe_mth {pl : Sem Bool} (c : MDef X.prog X.w X.K X.mg X.base CX k C m ps sp) (hr : Room k X.A) (hx : Passes CX X E) (ho : PE X o to) (ha : PA X (e :: es) t)
    (hst : starEach (e :: es) X.env = (false, eval e X.env) :: starEach es X.env := by rfl) (hpl : (backTo pos (starEach es X.env)).any (·.1) = false := by rfl)
    (ht : eval (.Call (.Attribute o m apos) (e :: es) [] pos) X.env = (do
      let ov ← eval o X.env
      standAt apos.atName
      let (f, first) ← holding [ov] (getMethod ov m pl)
      callWith pos f first (backTo pos (starEach (e :: es) X.env)) (backToKw pos (keywordEach [] X.env))) := by rfl) :
    PE X (.Call (.Attribute o m apos) (e :: es) [] pos) (tMeth C m sp [] E to t) := by
  obtain ⟨f, fd, hm, hb, F⟩ := c.ex
  exact pe_meth ho c.cl hm F hr hb .nil hx ha hst hpl ht
theorem pe_mth0 {pl : Sem Bool} (c : MDef X.prog X.w X.K X.mg X.base CX k C m ps sp) (hr : Room k X.A) (hx : Passes CX X E) (ho : PE X o to)
    (ht : eval (.Call (.Attribute o m apos) [] [] pos) X.env = (do
      let ov ← eval o X.env
      standAt apos.atName
      let (f, first) ← holding [ov] (getMethod ov m pl)
      callWith pos f first (backTo pos (starEach [] X.env)) (backToKw pos (keywordEach [] X.env))) := by rfl) :
    PE X (.Call (.Attribute o m apos) [] [] pos) (tMeth C m sp [] E to tNil) := by
  obtain ⟨f, fd, hm, hb, F⟩ := c.ex
  exact pe_meth0 ho c.cl hm F hr hb .nil hx ht
end
/-! ### written dicts with text keys -/
def KD (K : PySem.W.Frag) (w : World) (d : Addr) : Prop := ∃ es n, KDict K w d es n
section
variable {X : Cx} {d : Addr}
def rInKd (K : PySem.W.Frag) (d : Addr) : R2 := fun x y H Q => ∃ (z : Str) (r : Option Value), x = .str z ∧ y = .ref d ∧ PySem.W.nsIn K d z = some r ∧ Q (.bl r.isSome) H
def rNotInKd (K : PySem.W.Frag) (d : Addr) : R2 := fun x y H Q => ∃ (z : Str) (r : Option Value), x = .str z ∧ y = .ref d ∧ PySem.W.nsIn K d z = some r ∧ Q (.bl (!r.isSome)) H
theorem op_in_kd' (D : KD X.K X.w d) : OpR X (compareOp .In) (rInKd X.K d) := by
  obtain ⟨es, n, D⟩ := D
  exact op_in_kd D
theorem op_notIn_kd' (D : KD X.K X.w d) : OpR X (compareOp .NotIn) (rNotInKd X.K d) := by
  obtain ⟨es, n, D⟩ := D
  exact op_notIn_kd D
theorem kdct {K : PySem.W.Frag} {w : World} {d : Addr} {z : Str} {u : Value} {v : V} (D : KD K w d) (e : PySem.W.nsIn K d z = some (some u)) (r : RelV v u) : KDct K w d z v := by
  obtain ⟨es, n, D⟩ := D
  exact ⟨es, n, u, D.at_, D.lit, e, r⟩
end
theorem walk_zipT {K : PySem.W.Frag} {a b : Addr} {xs ys : List V} {n : Nat} (hn : n = min xs.length ys.length) : Walk (RZ.ItzT K a b) n (fun H => SqT K H a xs ∧ SqT K H b ys) (YPair (fun i => xs[i]?) (fun i => ys[i]?)) := by
  subst hn
  refine ⟨fun i _ hi q => ?_, fun _ q => ⟨xs, ys, q.1, q.2, by omega⟩, fun i H v H' _ q y => ?_⟩
  · have h1 : i < xs.length := by omega
    have h2 : i < ys.length := by omega
    exact ⟨xs, ys, xs[i], ys[i], q.1, q.2, by simp [h1], by simp [h2]⟩
  · obtain ⟨T, x, z, h1, h2, h3, h4, h5⟩ := y
    exact ⟨T, x, z, h1, h2, h3, h4 xs q.1, h5 ys q.2⟩
end L2

set_option Elab.async false
set_option maxRecDepth 100000
set_option maxHeartbeats 4000000
set_option linter.all false
/-! words of our own: a def of a class called off the class; a class made with defaults; {..} of two clauses over what is empty -/
namespace L2
open PySem PySem.Spec PyProof.Rows
/-- the def m of the class x, called as x.m(..) -/
structure CFun (P : Program) (w : World) (K : PySem.W.Frag) (mg : Str → Option Value) (base : Heap) (CX : CXT) (k : Nat) (x : Str) (C : Addr) (m : Str) (ps : List Str) (sp : Sp) : Prop where
  ex : ∃ (f : Addr) (fd : FuncData) (mc : Value), mg x = some (.ref C) ∧ ClX.CRead K C mc ∧ PySem.W.findCls K (.ref C) mc m = some (.val (.ref f)) ∧ PySem.W.keepIn K (.ref f) = true ∧ Binds K fd ps [] ∧ FnOk P w K mg base CX k f fd ps sp
/-- the class x, made with the defaults dvs -/
structure MkA (P : Program) (w : World) (K : PySem.W.Frag) (mg : Str → Option Value) (base : Heap) (CX : CXT) (k : Nat) (x : Str) (C : Addr) (dvs : List V) (ps : List Str) (sp : Sp) : Prop where
  ex : ∃ (f : Addr) (fd : FuncData) (ds : List Value), mg x = some (.ref C) ∧ Mk K C f ∧ Binds K fd ps ds ∧ Vals dvs ds ∧ FnOk P w K mg base CX k f fd ps sp
section
variable {X : Cx} {CX : CXT} {k : Nat} {C : Addr} {ps : List Str} {sp : Sp} {E : XK} {x m : Str} {dvs : List V} {e : Expr} {es : List Expr} {t : TA} {p p1 p2 pos : Pos}
theorem pe_cfun {pl : Sem Bool} (c : CFun X.prog X.w X.K X.mg X.base CX k x C m ps sp) (hr : Room k X.A) (hg : Gl X x) (hx : Passes CX X E) (ha : PA X (e :: es) t)
    (hdb : (x == ("__debug__" : Str)) = false := by decide) (he : starEach (e :: es) X.env = (false, eval e X.env) :: starEach es X.env := by rfl)
    (hpl : (backTo pos (starEach es X.env)).any (·.1) = false := by rfl)
    (ht : eval (.Call (.Attribute (.Name x p1) m p2) (e :: es) [] pos) X.env = (do
      let cls ← eval (.Name x p1) X.env
      standAt p2.atName
      let (g, before) ← holding [cls] (getMethod cls m pl)
      callWith pos g before (backTo pos (starEach (e :: es) X.env)) (backToKw pos (keywordEach [] X.env))) := by rfl) :
    PE X (.Call (.Attribute (.Name x p1) m p2) (e :: es) [] pos) (tCall sp [] E t) := by
  obtain ⟨f, fd, mc, hm, cr, hf, hk, hb, F⟩ := c.ex
  refine ⟨fun pins s σ H Q I h => PySem.W.methodCall_KW (ld_glob I hg hm ?_ hdb) ht⟩
  refine PySem.W.method_cls I.kIn cr.ga (PySem.W.cls_value I.kIn cr.rd hf (handed_of (v := .ref f) rfl) ?_)
  have I2 := I.tok (s.toks + 1)
  exact PySem.W.callWith_K (h₀ := X.base) I.ok.mod.kin hk (thn (ha.run pos pins _ σ H _ I2 h) fun us s1 ⟨vs, H1, I1, r, q⟩ => ⟨I1.kIn, run_fn F hr hb .nil hx I1 r q⟩) he hpl
theorem pe_mkA (c : MkA X.prog X.w X.K X.mg X.base CX k x C dvs ps sp) (hr : Room (k + 1) X.A) (hg : Gl X x) (hx : Passes CX X E) (ha : PA X (e :: es) t)
    (hdb : (x == ("__debug__" : Str)) = false := by decide) (he : starEach (e :: es) X.env = (false, eval e X.env) :: starEach es X.env := by rfl)
    (hpl : (backTo pos (starEach es X.env)).any (·.1) = false := by rfl) : PE X (.Call (.Name x p) (e :: es) [] pos) (tMake C sp dvs E t) := by
  obtain ⟨f, fd, ds, hm, M, hb, hd, F⟩ := c.ex
  exact pe_make M F hr hg hm hb hd hx ha hdb he hpl
theorem pe_never {e : Expr} : PE X e (fun _ _ _ => False) := ⟨fun _ _ _ _ _ _ h => h.elim⟩
theorem pt_never {e : Expr} : PT X e (fun _ _ _ => False) := ⟨fun _ _ _ _ _ _ h => h.elim⟩
end
end L2

set_option Elab.async false
set_option maxRecDepth 100000
set_option maxHeartbeats 4000000
set_option linter.all false
namespace L2
open PySem PySem.Spec PyProof.Rows
section
variable {prog : Program} {w : World} {A : Around} {R : Result → Shared → Prop} {s : Shared} {env : Env}
theorem turn_first (elt t0 i0 t1 i1 : Expr) (sc : Scope) (pos : Pos) (it acc : Value) (env : Env) : ∃ k : Value → Sem Fin,
    compTurn (.SetComp elt [⟨t0, i0, [], 0⟩, ⟨t1, i1, [], 0⟩] sc pos) 0 it acc env = (do
      standAt i0.pos
      match ← pyNext it with
      | none => pure (.done .next)
      | some v => k v) := ⟨_, rfl⟩
/-- the first clause has nothing to go over -/
theorem loop_none {elt t0 i0 t1 i1 : Expr} {sc : Scope} {pos : Pos} {it acc : Value}
    (h : wpAny (model prog w) A (pyNext it) (fun r s' => r = none ∧ R (.ok .next) s') (fun _ _ => False) s) :
    codeAny (model prog w) A (.compLoop (.SetComp elt [⟨t0, i0, [], 0⟩, ⟨t1, i1, [], 0⟩] sc pos) 0 it acc env) R s := by
  obtain ⟨k, e⟩ := turn_first elt t0 i0 t1 i1 sc pos it acc env
  refine codeAny_loop rfl (fun _ s' => s' = s) (fun n s' hs => ?_) 0 rfl
  subst hs
  show wpAny _ A ((compTurn (.SetComp elt [⟨t0, i0, [], 0⟩, ⟨t1, i1, [], 0⟩] sc pos) 0 it acc env).onRaise (fun x => do noteFrame x env; theTreesLotGoes x)) _ _ _
  refine wpAny_noted ?_
  rw [e]
  refine wpAny_bind (wpAny_standAt (wpAny_bind (wpAny_mono h (fun r s1 hr => ?_) fun _ _ z => z.elim)))
  obtain ⟨rfl, hr⟩ := hr
  exact wpAny_pure hr
end
end L2

set_option Elab.async false
set_option maxRecDepth 100000
set_option maxHeartbeats 4000000
set_option linter.all false
namespace L2
open PySem PySem.Spec PyProof.Rows
section
variable {X : Cx}
/-- {e for a in xs for b in ys}, xs with nothing in it: the new set D is empty -/
def tScNil (w : World) (wi : TI) : TE := fun σ H Q => wi σ H fun J H1 => ∀ D, H1 D = none → J.stop 0 (upd H1 D (SetO w D (fun _ => false) 0)) ∧ Q (.ref D) (upd H1 D (SetO w D (fun _ => false) 0))
theorem pe_scNil {elt t0 i0 t1 i1 : Expr} {sc : Scope} {own : List (PySem.Str × Nat)} {pos : Pos} {wi : TI} (calm : X.calm = true) (nd : X.N.Nodup) (hi : PI X t0 i0 wi) (ok : BlkOk X.N X.env.scope sc own)
    (fold : ∀ x, foldedSetIterable i0 X.env x = pure x := by intro _; rfl) :
    PE X (.SetComp elt [⟨t0, i0, [], 0⟩, ⟨t1, i1, [], 0⟩] sc pos) (tScNil X.w wi) := by
  refine ⟨fun pins s σ H Q I h => ?_⟩
  rw [PpSet.eval_SetComp]
  have frees : ∀ y ∈ sc.names, y.2 = .free → ∃ c, X.env.cells.lookup y.1 = some c := fun y hy e =>
    (ok.free y hy e).elim (fun z => I.ok.has _ (.inl z)) fun z => I.ok.has _ (.inr z)
  refine wpAny_comprehension_free (use := none) rfl fold (closure_ok frees) ok.kind (fun y hy e => by rw [ok.uniq y hy, e]) (thn (hi.run pins s σ H _ I h) fun xv sA hx => thn hx fun itv sB hB => ?_)
  obtain ⟨it, fp, tn, J, HB, rfl, IB, T, stB, fB, q⟩ := hB
  refine PpSet.newSet_ok (newEnv_comp ?_)
  obtain ⟨q1, q2⟩ := q sB.heap.objs.size (IB.hok.fresh (Nat.le_refl _))
  generalize eD : sB.heap.objs.size = D at q1 q2
  -- the set is laid
  generalize eC : ({ sB with heap := sB.heap.push { cls := .type "set", dict := none, data := .set #[] 0 (.fresh 0 0 (!X.w.params.followText "set-order")) } } : Shared) = sC
  have hC : sC.heap = sB.heap.push { cls := .type "set", dict := none, data := .set #[] 0 (.fresh 0 0 (!X.w.params.followText "set-order")) } := by rw [← eC]
  generalize eH : upd HB D (SetO X.w D (fun _ => false) 0) = HC at q1 q2
  have IC : Inv X pins σ HC sC := by
    rw [← eC, ← eH]
    refine IB.laid (t' := sB.toks) (fun b o e => Heap.get?_push_of_some _ e) (Nat.le_of_eq eD) (setO_new ?_)
    rw [← eD]
    exact (setR_new_at (ns := []) (Heap.get?_push_size _ rfl)).congr fun k => by simp
  have young : ∀ b ∈ fp, b < sB.heap.objs.size := fun b hb => (T.obj _ _ stB b hb).elim fun o e => Heap.lt_size e.1
  have fC : ∀ b ∈ fp, FpOk X pins HC b ∧ b < sC.heap.objs.size := fun b hb => by
    have lt := young b hb
    have nb : HC b = none := by
      rw [← eH, upd_ne (by rw [← eD]; exact Nat.ne_of_lt lt)]
      exact (fB b hb).1
    exact ⟨⟨nb, (fB b hb).2⟩, by rw [hC, Heap.size_push]; exact Nat.lt_succ_of_lt lt⟩
  have stC : tn 0 sC.heap := T.keep _ _ _ stB fun b _ o e => by rw [hC]; exact Heap.get?_push_of_some _ e
  -- the block
  have IE := block_start IC ok nd fC
  generalize eN : compEnvC sc (cellsFrom (sC.heap.objs.size + 1) sc.names (cloFrom X.env.cells sc.names [])) sC.heap.objs.size X.env = ce at IE
  have eL : ce.locals = sC.heap.objs.size := by rw [← eN]; rfl
  generalize eE : ({ sC with heap := pushCells (sC.heap.push { cls := .type "dict", data := .dict #[] }) sc.names } : Shared) = sE at IE
  have stE : tn 0 sE.heap := T.keep _ _ _ stC fun b _ o e => by rw [← eE]; exact pushCells_keeps _ _ _ _ (Heap.get?_push_of_some _ e)
  have stat : ∀ b ∈ fp, FpOk (X.blk sC HC sc ce fp) [] HC b := fun b hb =>
    ⟨(fC b hb).1.1, (IE.ok.exf b hb).1, IE.ok.exfs b hb, .inl hb, fun x c e => (IE.ok.exf b hb).2 x c e, fun p hp => by simp at hp⟩
  have back : ∀ s', Inv (X.blk sC HC sc ce fp) [] (wipe σ (own.map (·.2))) HC s' → compPost (model X.prog X.w) X.A X.xe none (EP X pins σ Q) (.ref D) sC.heap.objs.size (.ok .next) s' := fun s' IF => by
    have IG : Inv X pins σ HC s' := IC.call' (ch := fp) IF.os IF.base IF.hok IF.bare fun b hb => ⟨(fC b hb).1.2.2.2.1, (fC b hb).1.2.1, (fC b hb).1.2.2.2.2.1, (fC b hb).1.2.2.2.2.2⟩
    have nC : HC sC.heap.objs.size = none := by
      have z : HC ce.locals = none := IF.free
      rwa [eL] at z
    obtain ⟨m, hn, _⟩ := IF.loc
    have hn : s'.heap.Ns ce.locals m := hn
    rw [eL] at hn
    obtain ⟨f0, f1, f2, f3, f4, f5⟩ := IC.fpOk (Nat.le_refl _) nC
    exact ⟨m, hn, fun h'' sb => ⟨.ref D, HC, IG.turned (t' := s'.toks) (fun b o hb e => (sb.2 b hb).trans e) f0 f1 f3 f4 f5, rfl, q2⟩⟩
  have loop : codeAny (model X.prog X.w) X.A (.compLoop (.SetComp elt [⟨t0, i0, [], 0⟩, ⟨t1, i1, [], 0⟩] sc pos) 0 (.ref it) (.ref D) ce) (compPost (model X.prog X.w) X.A X.xe none (EP X pins σ Q) (.ref D) sC.heap.objs.size) sE :=
    loop_none (thnF (T.done (X.blk sC HC sc ce fp) rfl rfl rfl calm 0 [] sE _ HC (fun _ _ => False) IE stat stE q1) fun r s' hr => ⟨hr.1, back s' hr.2⟩)
  have fin := PpSet.codeAny_compStart_set loop (T.self X.A 0 _ _ _ stE loop)
  rw [← eN] at fin
  exact fin
end
end L2

set_option Elab.async false
set_option maxRecDepth 100000
set_option maxHeartbeats 4000000
set_option linter.all false
namespace K13
open PySem PySem.Spec PyProof.Rows L2
def top (i : Nat) : Stmt := PySem.Challenge.pw_openruns_k12_well_formed_histories.main.body.getD i (.Pass ⟨0, 0, 0, 0⟩)
abbrev FnP (K : PySem.W.Frag) (x qual : Str) (st : Stmt) (f : Addr) (fd : FuncData) : Prop := FunD K x qual (defArgs st) (defBody st) (defScope st) [] [] f fd
abbrev s_is_word : Stmt := top 21
abbrev n_is_word : List Str := ["value", "letter"]
abbrev p_is_word : List Str := ["value"]
theorem sc_is_word : FnScope n_is_word p_is_word (defScope s_is_word) := ⟨rfl, rfl, rfl, by decide +kernel, rfl, by decide +kernel, by decide +kernel⟩
abbrev s_is_integer : Stmt := top 22
abbrev n_is_integer : List Str := ["value"]
abbrev p_is_integer : List Str := ["value"]
theorem sc_is_integer : FnScope n_is_integer p_is_integer (defScope s_is_integer) := ⟨rfl, rfl, rfl, by decide +kernel, rfl, by decide +kernel, by decide +kernel⟩
abbrev s_are_words : Stmt := top 23
abbrev n_are_words : List Str := ["value", "most", "word"]
abbrev p_are_words : List Str := ["value", "most"]
theorem sc_are_words : FnScope n_are_words p_are_words (defScope s_are_words) := ⟨rfl, rfl, rfl, by decide +kernel, rfl, by decide +kernel, by decide +kernel⟩
abbrev s_copied : Stmt := top 18
abbrev n_copied : List Str := ["rows", "row", "inner"]
abbrev p_copied : List Str := ["rows"]
theorem sc_copied : FnScope n_copied p_copied (defScope s_copied) := ⟨rfl, rfl, rfl, by decide +kernel, rfl, by decide +kernel, by decide +kernel⟩
abbrev s_RowCheck___init__ : Stmt := inClass (top 44) 0
abbrev n_RowCheck___init__ : List Str := ["self", "ask_table", "signal_table", "with_edits"]
abbrev p_RowCheck___init__ : List Str := ["self", "ask_table", "signal_table", "with_edits"]
theorem sc_RowCheck___init__ : FnScope n_RowCheck___init__ p_RowCheck___init__ (defScope s_RowCheck___init__) := ⟨rfl, rfl, rfl, by decide +kernel, rfl, by decide +kernel, by decide +kernel⟩
abbrev s_RowCheck_check_rows : Stmt := inClass (top 44) 1
abbrev n_RowCheck_check_rows : List Str := ["self", "rows"]
abbrev p_RowCheck_check_rows : List Str := ["self", "rows"]
theorem sc_RowCheck_check_rows : FnScope n_RowCheck_check_rows p_RowCheck_check_rows (defScope s_RowCheck_check_rows) := ⟨rfl, rfl, rfl, by decide +kernel, rfl, by decide +kernel, by decide +kernel⟩
abbrev s_RowCheck_check_list : Stmt := inClass (top 44) 2
abbrev n_RowCheck_check_list : List Str := ["self", "rows", "prefix", "in_loop", "number", "row", "path", "inner_in_loop", "place", "inner"]
abbrev p_RowCheck_check_list : List Str := ["self", "rows", "prefix", "in_loop"]
theorem sc_RowCheck_check_list : FnScope n_RowCheck_check_list p_RowCheck_check_list (defScope s_RowCheck_check_list) := ⟨rfl, rfl, rfl, by decide +kernel, rfl, by decide +kernel, by decide +kernel⟩
abbrev s_Plan___init__ : Stmt := inClass (top 52) 0
abbrev n_Plan___init__ : List Str := ["self", "rows", "number", "path"]
abbrev p_Plan___init__ : List Str := ["self", "rows"]
theorem sc_Plan___init__ : FnScope n_Plan___init__ p_Plan___init__ (defScope s_Plan___init__) := ⟨rfl, rfl, rfl, by decide +kernel, rfl, by decide +kernel, by decide +kernel⟩
abbrev s_Plan_lay_list : Stmt := inClass (top 52) 1
abbrev n_Plan_lay_list : List Str := ["self", "rows", "prefix", "end", "exit_place", "number", "row", "behind"]
abbrev p_Plan_lay_list : List Str := ["self", "rows", "prefix", "end", "exit_place"]
theorem sc_Plan_lay_list : FnScope n_Plan_lay_list p_Plan_lay_list (defScope s_Plan_lay_list) := ⟨rfl, rfl, rfl, by decide +kernel, rfl, by decide +kernel, by decide +kernel⟩
abbrev s_Draft___init__ : Stmt := inClass (top 66) 0
abbrev n_Draft___init__ : List Str := ["self", "rows", "asks", "signals", "inputs", "with_edits"]
abbrev p_Draft___init__ : List Str := ["self", "rows", "asks", "signals", "inputs", "with_edits"]
theorem sc_Draft___init__ : FnScope n_Draft___init__ p_Draft___init__ (defScope s_Draft___init__) := ⟨rfl, rfl, rfl, by decide +kernel, rfl, by decide +kernel, by decide +kernel⟩
abbrev s_checked_table : Stmt := top 67
abbrev n_checked_table : List Str := ["value", "part", "most", "name", "entry"]
abbrev p_checked_table : List Str := ["value", "part", "most"]
theorem sc_checked_table : FnScope n_checked_table p_checked_table (defScope s_checked_table) := ⟨rfl, rfl, rfl, by decide +kernel, rfl, by decide +kernel, by decide +kernel⟩
abbrev s_named_in : Stmt := top 69
abbrev n_named_in : List Str := ["flat", "labels", "slots", "gates", "row", "word", "slot"]
abbrev p_named_in : List Str := ["flat"]
theorem sc_named_in : FnScope n_named_in p_named_in (defScope s_named_in) := ⟨rfl, rfl, rfl, by decide +kernel, rfl, by decide +kernel, by decide +kernel⟩
abbrev s_check_sizes : Stmt := top 70
abbrev n_check_sizes : List Str := ["plan", "names"]
abbrev p_check_sizes : List Str := ["plan", "names"]
theorem sc_check_sizes : FnScope n_check_sizes p_check_sizes (defScope s_check_sizes) := ⟨rfl, rfl, rfl, by decide +kernel, rfl, by decide +kernel, by decide +kernel⟩
abbrev s_Program___init__ : Stmt := inClass (top 72) 0
abbrev n_Program___init__ : List Str := ["self", "rows", "asks", "signals", "inputs"]
abbrev p_Program___init__ : List Str := ["self", "rows", "asks", "signals", "inputs"]
theorem sc_Program___init__ : FnScope n_Program___init__ p_Program___init__ (defScope s_Program___init__) := ⟨rfl, rfl, rfl, by decide +kernel, rfl, by decide +kernel, by decide +kernel⟩
abbrev s_gone_over : Stmt := top 112
abbrev n_gone_over : List Str := ["tokens", "running", "started", "at_end", "at", "token"]
abbrev p_gone_over : List Str := ["tokens"]
theorem sc_gone_over : FnScope n_gone_over p_gone_over (defScope s_gone_over) := ⟨rfl, rfl, rfl, by decide +kernel, rfl, by decide +kernel, by decide +kernel⟩
abbrev s_turns_in : Stmt := top 113
abbrev n_turns_in : List Str := ["tokens", "starts", "ends", "at", "token", "start", "end"]
abbrev p_turns_in : List Str := ["tokens"]
theorem sc_turns_in : FnScope n_turns_in p_turns_in (defScope s_turns_in) := ⟨rfl, rfl, rfl, by decide +kernel, rfl, by decide +kernel, by decide +kernel⟩
abbrev s_is_outer : Stmt := top 114
abbrev n_is_outer : List Str := ["token"]
abbrev p_is_outer : List Str := ["token"]
theorem sc_is_outer : FnScope n_is_outer p_is_outer (defScope s_is_outer) := ⟨rfl, rfl, rfl, by decide +kernel, rfl, by decide +kernel, by decide +kernel⟩
abbrev s_has_form : Stmt := top 115
abbrev n_has_form : List Str := ["token", "forms", "form", "part"]
abbrev p_has_form : List Str := ["token"]
theorem sc_has_form : FnScope n_has_form p_has_form (defScope s_has_form) := ⟨rfl, rfl, rfl, by decide +kernel, rfl, by decide +kernel, by decide +kernel⟩
abbrev s_fits : Stmt := top 116
abbrev n_fits : List Str := ["form", "part"]
abbrev p_fits : List Str := ["form", "part"]
theorem sc_fits : FnScope n_fits p_fits (defScope s_fits) := ⟨rfl, rfl, rfl, by decide +kernel, rfl, by decide +kernel, by decide +kernel⟩
abbrev s_check : Stmt := top 118
abbrev n_check : List Str := ["history"]
abbrev p_check : List Str := ["history"]
theorem sc_check : FnScope n_check p_check (defScope s_check) := ⟨rfl, rfl, rfl, by decide +kernel, rfl, by decide +kernel, by decide +kernel⟩
abbrev s_cut : Stmt := top 119
abbrev n_cut : List Str := ["history", "flaw"]
abbrev p_cut : List Str := ["history"]
theorem sc_cut : FnScope n_cut p_cut (defScope s_cut) := ⟨rfl, rfl, rfl, by decide +kernel, rfl, by decide +kernel, by decide +kernel⟩
abbrev s_Reader___init__ : Stmt := inClass (top 120) 0
abbrev n_Reader___init__ : List Str := ["self", "program"]
abbrev p_Reader___init__ : List Str := ["self", "program"]
theorem sc_Reader___init__ : FnScope n_Reader___init__ p_Reader___init__ (defScope s_Reader___init__) := ⟨rfl, rfl, rfl, by decide +kernel, rfl, by decide +kernel, by decide +kernel⟩
abbrev s_Reader_read_turns : Stmt := inClass (top 120) 1
abbrev n_Reader_read_turns : List Str := ["self", "turns", "turn", "fault"]
abbrev p_Reader_read_turns : List Str := ["self", "turns"]
theorem sc_Reader_read_turns : FnScope n_Reader_read_turns p_Reader_read_turns (defScope s_Reader_read_turns) := ⟨rfl, rfl, rfl, by decide +kernel, rfl, by decide +kernel, by decide +kernel⟩
abbrev s_reader_of : Stmt := top 121
abbrev n_reader_of : List Str := ["program", "history", "reader"]
abbrev p_reader_of : List Str := ["program", "history"]
theorem sc_reader_of : FnScope n_reader_of p_reader_of (defScope s_reader_of) := ⟨rfl, rfl, rfl, by decide +kernel, rfl, by decide +kernel, by decide +kernel⟩
abbrev s_read : Stmt := top 122
abbrev n_read : List Str := ["program", "history", "reader"]
abbrev p_read : List Str := ["program", "history"]
theorem sc_read : FnScope n_read p_read (defScope s_read) := ⟨rfl, rfl, rfl, by decide +kernel, rfl, by decide +kernel, by decide +kernel⟩
abbrev s_good_turns : Stmt := top 123
abbrev n_good_turns : List Str := ["program", "history"]
abbrev p_good_turns : List Str := ["program", "history"]
theorem sc_good_turns : FnScope n_good_turns p_good_turns (defScope s_good_turns) := ⟨rfl, rfl, rfl, by decide +kernel, rfl, by decide +kernel, by decide +kernel⟩
abbrev s_resume : Stmt := top 124
abbrev n_resume : List Str := ["program", "history", "reader", "at", "word"]
abbrev p_resume : List Str := ["program", "history"]
theorem sc_resume : FnScope n_resume p_resume (defScope s_resume) := ⟨rfl, rfl, rfl, by decide +kernel, rfl, by decide +kernel, by decide +kernel⟩
abbrev s__law_bag : Stmt := top 126
abbrev n__law_bag : List Str := ["_law_script", "_law_cell"]
abbrev p__law_bag : List Str := ["_law_script"]
theorem sc__law_bag : FnScope n__law_bag p__law_bag (defScope s__law_bag) := ⟨rfl, rfl, rfl, by decide +kernel, rfl, by decide +kernel, by decide +kernel⟩
abbrev s__law_draw : Stmt := top 127
abbrev n__law_draw : List Str := ["_law_bag_here", "_law_many", "_law_number", "_law_cell", "_law_value"]
abbrev p__law_draw : List Str := ["_law_bag_here", "_law_many"]
theorem sc__law_draw : FnScope n__law_draw p__law_draw (defScope s__law_draw) := ⟨rfl, rfl, rfl, by decide +kernel, rfl, by decide +kernel, by decide +kernel⟩
abbrev s__law_one : Stmt := top 128
abbrev n__law_one : List Str := ["_law_bag_here", "_law_items"]
abbrev p__law_one : List Str := ["_law_bag_here", "_law_items"]
theorem sc__law_one : FnScope n__law_one p__law_one (defScope s__law_one) := ⟨rfl, rfl, rfl, by decide +kernel, rfl, by decide +kernel, by decide +kernel⟩
abbrev s__law_words : Stmt := top 129
abbrev n__law_words : List Str := ["_law_bag_here", "_law_many", "_law_most", "_law_taken", "_law_letters", "_law_words_here", "_law_k", "_law_size", "_law_word_here", "_law_shift", "_law_last", "_law_place"]
abbrev p__law_words : List Str := ["_law_bag_here", "_law_many", "_law_most", "_law_taken"]
theorem sc__law_words : FnScope n__law_words p__law_words (defScope s__law_words) := ⟨rfl, rfl, rfl, by decide +kernel, rfl, by decide +kernel, by decide +kernel⟩
abbrev s__law_same : Stmt := top 130
abbrev n__law_same : List Str := ["_law_told_here", "_law_due", "_law_k"]
abbrev p__law_same : List Str := ["_law_told_here", "_law_due"]
theorem sc__law_same : FnScope n__law_same p__law_same (defScope s__law_same) := ⟨rfl, rfl, rfl, by decide +kernel, rfl, by decide +kernel, by decide +kernel⟩
abbrev s__law_word : Stmt := top 131
abbrev n__law_word : List Str := ["_law_bag_here"]
abbrev p__law_word : List Str := ["_law_bag_here"]
theorem sc__law_word : FnScope n__law_word p__law_word (defScope s__law_word) := ⟨rfl, rfl, rfl, by decide +kernel, rfl, by decide +kernel, by decide +kernel⟩
abbrev s__law_token : Stmt := top 132
abbrev n__law_token : List Str := ["_law_bag_here", "_law_things", "_law_way", "_law_running", "_law_number", "_law_menu", "_law_k"]
abbrev p__law_token : List Str := ["_law_bag_here", "_law_things"]
theorem sc__law_token : FnScope n__law_token p__law_token (defScope s__law_token) := ⟨rfl, rfl, rfl, by decide +kernel, rfl, by decide +kernel, by decide +kernel⟩
abbrev s__law_odd : Stmt := top 133
abbrev n__law_odd : List Str := ["_law_bag_here", "_law_things", "_law_menu"]
abbrev p__law_odd : List Str := ["_law_bag_here", "_law_things"]
theorem sc__law_odd : FnScope n__law_odd p__law_odd (defScope s__law_odd) := ⟨rfl, rfl, rfl, by decide +kernel, rfl, by decide +kernel, by decide +kernel⟩
abbrev s__law_fits : Stmt := top 134
abbrev n__law_fits : List Str := ["_law_token_here", "_law_things", "_law_at", "_law_forms", "_law_words_here", "_law_word_here", "_law_number", "_law_letter"]
abbrev p__law_fits : List Str := ["_law_token_here", "_law_things", "_law_at"]
theorem sc__law_fits : FnScope n__law_fits p__law_fits (defScope s__law_fits) := ⟨rfl, rfl, rfl, by decide +kernel, rfl, by decide +kernel, by decide +kernel⟩
abbrev s__law_enter : Stmt := top 135
abbrev n__law_enter : List Str := ["_law_token_here", "_law_things"]
abbrev p__law_enter : List Str := ["_law_token_here", "_law_things"]
theorem sc__law_enter : FnScope n__law_enter p__law_enter (defScope s__law_enter) := ⟨rfl, rfl, rfl, by decide +kernel, rfl, by decide +kernel, by decide +kernel⟩
abbrev s__law_fault : Stmt := top 136
abbrev n__law_fault : List Str := ["_law_history_here", "_law_things", "_law_over", "_law_at"]
abbrev p__law_fault : List Str := ["_law_history_here"]
theorem sc__law_fault : FnScope n__law_fault p__law_fault (defScope s__law_fault) := ⟨rfl, rfl, rfl, by decide +kernel, rfl, by decide +kernel, by decide +kernel⟩
abbrev s__law_told : Stmt := top 137
abbrev n__law_told : List Str := ["_law_which", "_law_history_here", "_law_program", "e"]
abbrev p__law_told : List Str := ["_law_which", "_law_history_here"]
theorem sc__law_told : FnScope n__law_told p__law_told (defScope s__law_told) := ⟨rfl, rfl, rfl, by decide +kernel, rfl, by decide +kernel, by decide +kernel⟩
abbrev s__law_history : Stmt := top 138
abbrev n__law_history : List Str := ["_law_bag_here", "_law_things", "_law_history_here", "_law_k", "_law_place", "_law_way", "_law_odd_here", "_law_instead", "_law_token_here"]
abbrev p__law_history : List Str := ["_law_bag_here", "_law_things"]
theorem sc__law_history : FnScope n__law_history p__law_history (defScope s__law_history) := ⟨rfl, rfl, rfl, by decide +kernel, rfl, by decide +kernel, by decide +kernel⟩
abbrev s__law_turns : Stmt := top 139
abbrev n__law_turns : List Str := ["_law_history_here", "_law_turns_here", "_law_token_here"]
abbrev p__law_turns : List Str := ["_law_history_here"]
theorem sc__law_turns : FnScope n__law_turns p__law_turns (defScope s__law_turns) := ⟨rfl, rfl, rfl, by decide +kernel, rfl, by decide +kernel, by decide +kernel⟩
abbrev s__law_no_program : Stmt := top 140
abbrev n__law_no_program : List Str := ["_law_history_here", "_law_value", "_law_found", "_law_which", "_law_told_here", "e"]
abbrev p__law_no_program : List Str := ["_law_history_here"]
theorem sc__law_no_program : FnScope n__law_no_program p__law_no_program (defScope s__law_no_program) := ⟨rfl, rfl, rfl, by decide +kernel, rfl, by decide +kernel, by decide +kernel⟩
abbrev s_law : Stmt := top 141
abbrev n_law : List Str := ["_law_script", "_law_bag_here", "_law_history_here", "_law_value", "_law_due", "_law_handed", "_law_turns_here", "_law_told_here", "_law_k"]
abbrev p_law : List Str := ["_law_script"]
theorem sc_law : FnScope n_law p_law (defScope s_law) := ⟨rfl, rfl, rfl, by decide +kernel, rfl, by decide +kernel, by decide +kernel⟩
/-! ### what the head tells -/
def kindV (v : V) : V := match v with
  | .int _ => .str "number"
  | _ => .str "word"
/-- the forms of a token's parts, by its head -/
def fms (t : Tok) : List V := t.rest.map kindV
def kindS (k : Bool) : Str := if k then "ask" else "timer"
def nms : Tok → List V
  | .answer _ _ => [.str "ask"]
  | .rang _ => [.str "timer"]
  | _ => [.str "ask", .str "timer"]
abbrev dO (K : PySem.W.Frag) : Addr := He.ga K "OUTER_FORMS"
abbrev dC (K : PySem.W.Frag) : Addr := He.ga K "COMMAND_FORMS"
abbrev dS (K : PySem.W.Frag) : Addr := He.ga K "STARTED"
abbrev dN (K : PySem.W.Frag) : Addr := He.ga K "NAMED"
structure HeadF (K : PySem.W.Frag) : Prop where
  out : ∀ t : Tok, t.outer = true → ∃ p, PySem.W.nsIn K (dO K) t.head = some (some (.ref p)) ∧ ∀ H, SqT K H p (fms t)
  noOut : ∀ t : Tok, t.outer = false → PySem.W.nsIn K (dO K) t.head = some none
  com : ∀ t : Tok, t.outer = false → ∃ p, PySem.W.nsIn K (dC K) t.head = some (some (.ref p)) ∧ ∀ H, SqT K H p (fms t)
  sta : ∀ (t : Tok) k, t.start? = some k → ∃ u, PySem.W.nsIn K (dS K) t.head = some (some u) ∧ RelV (.str (kindS k)) u
  noSta : ∀ t : Tok, t.start? = none → PySem.W.nsIn K (dS K) t.head = some none
  nam : ∀ (t : Tok) n, t.num? = some n → ∃ p, PySem.W.nsIn K (dN K) t.head = some (some (.ref p)) ∧ ∀ H, SqT K H p (nms t)
  noNam : ∀ t : Tok, t.num? = none → PySem.W.nsIn K (dN K) t.head = some none
  unk : ∀ z : Str, z = "gone" ∨ z = "Set" → PySem.W.nsIn K (dO K) z = some none ∧ PySem.W.nsIn K (dC K) z = some none
structure Tx (w : World) (K : PySem.W.Frag) (mg : Str → Option Value) : Prop where
  b_isinstance : mg "isinstance" = none
  b_str : mg "str" = none
  b_int : mg "int" = none
  b_bool : mg "bool" = none
  b_tuple : mg "tuple" = none
  b_list : mg "list" = none
  b_dict : mg "dict" = none
  b_len : mg "len" = none
  b_all : mg "all" = none
  b_any : mg "any" = none
  b_zip : mg "zip" = none
  b_enumerate : mg "enumerate" = none
  b_range : mg "range" = none
  b_sorted : mg "sorted" = none
  b_set : mg "set" = none
  m_LONGEST_WORD : ∃ t, mg "LONGEST_WORD" = some (.int 8 t)
  lastT : ∀ H, SqT K H (He.ga K "LAST_WORDS") [.str "ended", .str "anew"]
  m_LAST_WORDS : mg "LAST_WORDS" = some (.ref (He.ga K "LAST_WORDS"))
  hd : HeadF K
  m_OUTER_FORMS : mg "OUTER_FORMS" = some (.ref (He.ga K "OUTER_FORMS"))
  D_OUTER_FORMS : KD K w (He.ga K "OUTER_FORMS")
  m_COMMAND_FORMS : mg "COMMAND_FORMS" = some (.ref (He.ga K "COMMAND_FORMS"))
  D_COMMAND_FORMS : KD K w (He.ga K "COMMAND_FORMS")
  m_STARTED : mg "STARTED" = some (.ref (He.ga K "STARTED"))
  D_STARTED : KD K w (He.ga K "STARTED")
  m_NAMED : mg "NAMED" = some (.ref (He.ga K "NAMED"))
  D_NAMED : KD K w (He.ga K "NAMED")
  m_FINISH : ∃ t, mg "FINISH" = some (.int (-2) t)
  m_MOST_ASKS : ∃ t, mg "MOST_ASKS" = some (.int (6) t)
  m_MOST_SIGNALS : ∃ t, mg "MOST_SIGNALS" = some (.int (3) t)
  m_MOST_INPUTS : ∃ t, mg "MOST_INPUTS" = some (.int (3) t)
  m_MOST_ROWS : ∃ t, mg "MOST_ROWS" = some (.int (60) t)
  m_MOST_LABELS : ∃ t, mg "MOST_LABELS" = some (.int (6) t)
  m_MOST_SLOTS : ∃ t, mg "MOST_SLOTS" = some (.int (4) t)
  m_MOST_GATES : ∃ t, mg "MOST_GATES" = some (.int (8) t)
  kp : ∀ t ∈ (["NoneType", "list", "str", "int", "dict", "tuple"] : List String), PySem.W.kitOne K (.type t) (.ref (He.ga K "Program")) = some false
  kt : PySem.W.kitOne K (.ref (He.ga K "Program")) (.ref (He.ga K "Program")) = some true
  tyP : ∀ (H : Hp) (a dx : Addr) (fs : List (Str × V)), H a = some (.ins (He.ga K "Program") dx fs) → TyX K H (.ref a) (.ref (He.ga K "Program"))
  m_Program : mg "Program" = some (.ref (He.ga K "Program"))
  c_RowCheck : Cls K (He.ga K "RowCheck")
  n_RowCheck_ask_table : NoAttr K (He.ga K "RowCheck") "ask_table"
  n_RowCheck_signal_table : NoAttr K (He.ga K "RowCheck") "signal_table"
  n_RowCheck_with_edits : NoAttr K (He.ga K "RowCheck") "with_edits"
  n_RowCheck_seen_edits : NoAttr K (He.ga K "RowCheck") "seen_edits"
  n_RowCheck_seen_gates : NoAttr K (He.ga K "RowCheck") "seen_gates"
  c_Plan : Cls K (He.ga K "Plan")
  n_Plan_flat : NoAttr K (He.ga K "Plan") "flat"
  n_Plan_places : NoAttr K (He.ga K "Plan") "places"
  n_Plan_behind : NoAttr K (He.ga K "Plan") "behind"
  n_Plan_entries : NoAttr K (He.ga K "Plan") "entries"
  n_Plan_sides : NoAttr K (He.ga K "Plan") "sides"
  n_Plan_starts : NoAttr K (He.ga K "Plan") "starts"
  n_Plan_numbers : NoAttr K (He.ga K "Plan") "numbers"
  c_Program : Cls K (He.ga K "Program")
  n_Program_ask_table : NoAttr K (He.ga K "Program") "ask_table"
  n_Program_signal_table : NoAttr K (He.ga K "Program") "signal_table"
  n_Program_input_words : NoAttr K (He.ga K "Program") "input_words"
  n_Program_row_list : NoAttr K (He.ga K "Program") "row_list"
  n_Program_plan : NoAttr K (He.ga K "Program") "plan"
  n_Program_name_table : NoAttr K (He.ga K "Program") "name_table"
  c_Reader : Cls K (He.ga K "Reader")
  n_Reader_program : NoAttr K (He.ga K "Reader") "program"
  n_Reader_moment : NoAttr K (He.ga K "Reader") "moment"
  n_Reader_turns_read : NoAttr K (He.ga K "Reader") "turns_read"
  n_Reader_tokens_read : NoAttr K (He.ga K "Reader") "tokens_read"
  n_Reader_breach : NoAttr K (He.ga K "Reader") "breach"
end K13

set_option Elab.async false
set_option maxRecDepth 100000
set_option maxHeartbeats 4000000
set_option linter.all false
namespace K13
open PySem PySem.Spec PyProof.Rows L2
def lowC (c : Nat) : Bool := (!decide ((⟨#[c]⟩ : Str).cps.toList < ("a" : Str).cps.toList)) && (!decide (("z" : Str).cps.toList < (⟨#[c]⟩ : Str).cps.toList))
def isWord (z : Str) : Bool := (decide (1 ≤ (z.length : Int)) && decide ((z.length : Int) ≤ 8)) && (z.cps.toList.map lowC).all id
/-- no text -/
def NoStrT (K : PySem.W.Frag) (H : Hp) (v : V) : Prop := ∃ ty, TyX K H v ty ∧ PySem.W.kitOne K ty (.type "str") = some false
def spIsWord (K : PySem.W.Frag) : Sp := fun vs H Q _ => (∃ z : Str, vs = [.str z] ∧ z.length ≤ sizeLine ∧ ∀ H', Same H H' → Q (.bl (isWord z)) H') ∨ ∃ v, vs = [v] ∧ NoStrT K H v ∧ Q (.bl false) H
theorem noStr_non {K : PySem.W.Frag} {H : Hp} : NoStrT K H .non := ⟨_, .base .non, kit_ty (by decide +kernel)⟩
theorem noStr_int {K : PySem.W.Frag} {H : Hp} (i : Int) : NoStrT K H (.int i) := ⟨_, .base (.int i), kit_ty (by decide +kernel)⟩
theorem tchainS {i j c : Str} {ta tb : TE} {σ : L2.St} {H : Hp} {Q : VK} (ha : Val ta σ H (.str i)) (hb : Val tb σ H (.str j))
    (h : Q (.bl ((!decide (j.cps.toList < i.cps.toList)) && (!decide (c.cps.toList < j.cps.toList)))) H) :
    tChain (fun x y H Q => ∃ i j, x = V.str i ∧ y = V.str j ∧ Q (V.bl !decide (j.cps.toList < i.cps.toList)) H) (fun x y H Q => ∃ i j, x = V.str i ∧ y = V.str j ∧ Q (V.bl !decide (j.cps.toList < i.cps.toList)) H) ta tb (tC (.str c)) σ H Q := by
  refine ha _ (hb _ ⟨i, j, rfl, rfl, (!decide (j.cps.toList < i.cps.toList)), rfl, ?_⟩)
  cases e : (!decide (j.cps.toList < i.cps.toList)) with
  | true =>
    rw [e] at h
    exact iteT ⟨j, c, rfl, rfl, h⟩
  | false =>
    rw [e] at h
    exact iteF h
theorem tYes_ {σ : L2.St} {H : Hp} {Q : Bool → Hp → Prop} (h : Q true H) : tYes σ H Q := h
theorem take_more {α : Type} : ∀ {l : List α} {i : Nat} {x : α}, l[i]? = some x → l.take (i + 1) = l.take i ++ [x]
  | [], i, x, h => by simp at h
  | a :: l, 0, x, h => by
    cases Option.some.inj h
    rfl
  | a :: l, i + 1, x, h => by
    have ih := take_more (l := l) (i := i) (x := x) h
    simp [List.take_succ_cons, ih]
section
variable {P : Program} {w : World} {K : PySem.W.Frag} {mg : Str → Option Value} {base : Heap}
theorem ok_is_word {f : Addr} {fd : FuncData} (F : FnP K "is_word" "is_word" s_is_word f fd) (T : Tx w K mg) : FnOk P w K mg base CX0 1 f fd p_is_word (spIsWord K) := by
  refine F.ok sc_is_word (fun vs H Q E h => ?_) (fun cdv A outer s H vs Q E hr h => ?_)
  · rcases h with ⟨z, rfl, _⟩ | ⟨v, rfl, _⟩ <;> rfl
  · obtain ⟨tL, mL⟩ := T.m_LONGEST_WORD
    refine ⟨_, PSs.nox (pss_cons (ps_if (PW.pt (pw_or (pt_not (pt_val (pe_callB call_isi (by rfl) T.b_isinstance (by decide +kernel) (pa_cons (pv 0) (pa_cons (pe_bltn (v := .ty "str") (u := .type "str") (by rfl) T.b_str (by decide +kernel) rfl) pa_nil))))) (pw_or1 (pt_not (pt_chain op_le op_le pe_int (pe_callB call_len_str (by rfl) T.b_len PySem.boot_len (pa_cons (pv 0) pa_nil)) (pe_glob (by rfl) mL (show RelV (.int 8) _ from ⟨_, rfl⟩))))))) (pss_one (ps_ret pe_bl)) pss_nil)
      (pss_one (ps_ret (pe_callB (cr_all rfl) (by rfl) T.b_all (by decide +kernel) (pa_cons (pe_lc (own := [("letter", 1)]) (g := (gName 1)) (by rfl) sc_is_word.nd (pi_str (pv 0)) (blkOk_by (N := n_is_word) (sc := defScope s_is_word) (by decide +kernel)) (fun _ _ _ _ _ => (pg_name (i := 1) sc_is_word.nd rfl (.inl rfl))) (fun _ _ _ _ _ => pts_nil) (fun _ _ _ _ _ => (pe_chain op_le_str op_le_str pe_str (pv 1) pe_str))) pa_nil))))), ?_⟩
    rcases h with ⟨z, rfl, hl, k⟩ | ⟨v, rfl, ⟨ty, n1, n2⟩, k⟩
    rotate_left
    · refine ⟨_, rfl, v, .ty "str", _, _, false, rfl, .ty _, n1, n2, _, rfl, ?_⟩
      refine iteT ?_
      refine iteT ?_
      exact k
    refine ⟨_, rfl, .str z, .ty "str", _, _, true, rfl, .ty _, .base (.str z), kit_ty (by decide +kernel), _, rfl, ?_⟩
    refine iteF ?_
    refine tchainC (i := 1) (j := (z.length : Int)) (c := 8) val_c (fun Q q => ⟨_, rfl, _, rfl, hl, q⟩) ⟨_, rfl, ?_⟩
    cases e : (decide (1 ≤ (z.length : Int)) && decide ((z.length : Int) ≤ 8)) with
    | false =>
      refine iteT ?_
      have e2 : isWord z = false := by unfold isWord; rw [e]; rfl
      rw [← e2]
      exact k H (Same.refl H)
    | true =>
      refine iteF ?_
      refine ⟨_, rfl, _, rfl, fun D nD => ?_⟩
      refine lc_it (walk_str (z := z)) (fun i H' => H' = upd H D (.lst (((z.cps.toList.map lowC).take i).map V.bl))) rfl (fun _ _ _ _ => trivial) (fun i x H1 H2 hi p y => ?_) (fun H1 p => ?_)
      · obtain ⟨rfl, c, hc, rfl⟩ := y
        subst p
        refine ⟨rfl, ?_⟩
        refine tYes_ ?_
        refine iteT ?_
        refine tchainS (i := "a") (j := ⟨#[c]⟩) (c := "z") val_c (val_var rfl) ?_
        refine ⟨_, upd_same, ?_, ?_⟩
        · rw [List.length_map, List.length_take, List.length_map]
          refine small1000 ?_
          simp only [Bool.and_eq_true, decide_eq_true_eq] at e
          have : z.cps.toList.length = z.length := by simp [Str.length]
          omega
        · rw [upd_upd]
          have hc' : (z.cps.toList.map lowC)[i]? = some (lowC c) := by
            rw [List.getElem?_map, Array.getElem?_toList, hc]; rfl
          rw [take_more hc', List.map_append]
          rfl
      · subst p
        refine ⟨D, z.cps.toList.map lowC, rfl, SqL.of ?_, ?_⟩
        · rw [upd_same, List.take_of_length_le (by simp)]
        · have e2 : isWord z = (z.cps.toList.map lowC).all id := by unfold isWord; rw [e]; rfl
          rw [← e2]
          exact k _ (Same.new nD)
end
end K13

set_option Elab.async false
set_option maxRecDepth 100000
set_option maxHeartbeats 4000000
set_option linter.all false
namespace K13
open PySem PySem.Spec PyProof.Rows L2
def spIsInt : Sp := fun vs H Q _ => ∃ (v : V) (b : Bool), vs = [v] ∧ ((∃ i, v = .int i ∧ b = true) ∨ (∃ c, v = .bl c ∧ b = false) ∨ (∃ z, v = .str z ∧ b = false)) ∧ Q (.bl b) H
inductive Fit : V → V → Bool → Prop where
  | num (i : Int) : Fit (.str "number") (.int i) (decide (0 ≤ i))
  | flag (c : Bool) : Fit (.str "number") (.bl c) false
  | txt (z : Str) : Fit (.str "number") (.str z) false
  | wint (i : Int) : Fit (.str "word") (.int i) false
  | wnon : Fit (.str "word") .non false
  | word (z : Str) (h : z.length ≤ sizeLine) : Fit (.str "word") (.str z) (isWord z)
def spFits : Sp := fun vs H Q _ => ∃ (fm v : V) (b : Bool), vs = [fm, v] ∧ Fit fm v b ∧ ∀ H', Same H H' → Q (.bl b) H'
section
variable {P : Program} {w : World} {K : PySem.W.Frag} {mg : Str → Option Value} {base : Heap}
theorem ok_is_integer {f : Addr} {fd : FuncData} (F : FnP K "is_integer" "is_integer" s_is_integer f fd) (T : Tx w K mg) : FnOk P w K mg base CX0 1 f fd p_is_integer spIsInt := by
  refine F.ok sc_is_integer (fun vs H Q E h => ?_) (fun cdv A outer s H vs Q E hr h => ?_)
  · obtain ⟨v, b, rfl, _⟩ := h
    rfl
  · obtain ⟨v, b, rfl, hv, k⟩ := h
    refine ⟨_, PSs.nox (pss_one (ps_ret (pe_and (pe_callB call_isi (by rfl) T.b_isinstance (by decide +kernel) (pa_cons (pv 0) (pa_cons (pe_bltn (v := .ty "int") (u := .type "int") (by rfl) T.b_int (by decide +kernel) rfl) pa_nil))) (pe_one (pe_not (pe_callB call_isi (by rfl) T.b_isinstance (by decide +kernel) (pa_cons (pv 0) (pa_cons (pe_bltn (v := .ty "bool") (u := .type "bool") (by rfl) T.b_bool (by decide +kernel) rfl) pa_nil)))))))), ?_⟩
    rcases hv with ⟨i, rfl, rfl⟩ | ⟨c, rfl, rfl⟩ | ⟨z, rfl, rfl⟩
    · refine ⟨_, rfl, .int i, .ty "int", _, _, true, rfl, .ty _, .base (.int i), kit_ty (by decide +kernel), _, rfl, ?_⟩
      refine iteT ⟨_, rfl, .int i, .ty "bool", _, _, false, rfl, .ty _, .base (.int i), kit_ty (by decide +kernel), _, rfl, ?_⟩
      exact k
    · refine ⟨_, rfl, .bl c, .ty "int", _, _, true, rfl, .ty _, .base (.bl c), kit_ty (by decide +kernel), _, rfl, ?_⟩
      refine iteT ⟨_, rfl, .bl c, .ty "bool", _, _, true, rfl, .ty _, .base (.bl c), kit_ty (by decide +kernel), _, rfl, ?_⟩
      exact k
    · refine ⟨_, rfl, .str z, .ty "int", _, _, false, rfl, .ty _, .base (.str z), kit_ty (by decide +kernel), _, rfl, ?_⟩
      exact iteF k
theorem ok_fits {f : Addr} {fd : FuncData} (F : FnP K "fits" "fits" s_fits f fd) (T : Tx w K mg) (G_is_integer : Def P w K mg base CX0 1 "is_integer" p_is_integer spIsInt)
    (G_is_word : Def P w K mg base CX0 1 "is_word" p_is_word (spIsWord K)) : FnOk P w K mg base CX0 2 f fd p_fits spFits := by
  refine F.ok sc_fits (fun vs H Q E h => ?_) (fun cdv A outer s H vs Q E hr h => ?_)
  · obtain ⟨fm, v, b, rfl, _⟩ := h
    rfl
  · obtain ⟨fm, v, b, rfl, hf, k⟩ := h
    refine ⟨_, PSs.nox (pss_cons (ps_if (pt_cmpR op_eq (pv 0) pe_str (nomark _)) (pss_one (ps_ret (pe_and (pe_fn G_is_integer (hr.mono (by decide)) (by rfl) pass0 (pa_cons (pv 1) pa_nil)) (pe_one (pe_cmpR op_ge (pv 1) pe_int (nomark _)))))) pss_nil)
      (pss_one (ps_ret (pe_fn G_is_word (hr.mono (by decide)) (by rfl) pass0 (pa_cons (pv 1) pa_nil))))), ?_⟩
    cases hf with
    | num i =>
      refine ⟨_, rfl, rfl, _, rfl, ?_⟩
      refine iteT ⟨_, rfl, .int i, true, rfl, .inl ⟨i, rfl, rfl⟩, _, rfl, ?_⟩
      refine iteT ⟨_, rfl, _, _, rfl, rfl, ?_⟩
      exact k H (Same.refl H)
    | flag c =>
      refine ⟨_, rfl, rfl, _, rfl, ?_⟩
      refine iteT ⟨_, rfl, .bl c, false, rfl, .inr (.inl ⟨c, rfl, rfl⟩), _, rfl, ?_⟩
      refine iteF ?_
      exact k H (Same.refl H)
    | word z h =>
      refine ⟨_, rfl, rfl, _, rfl, ?_⟩
      refine iteF ⟨_, rfl, .inl ⟨z, rfl, h, ?_⟩⟩
      exact k
    | txt z =>
      refine ⟨_, rfl, rfl, _, rfl, ?_⟩
      refine iteT ⟨_, rfl, .str z, false, rfl, .inr (.inr ⟨z, rfl, rfl⟩), _, rfl, ?_⟩
      refine iteF ?_
      exact k H (Same.refl H)
    | wint i =>
      refine ⟨_, rfl, rfl, _, rfl, ?_⟩
      refine iteF ⟨_, rfl, .inr ⟨_, rfl, noStr_int i, ?_⟩⟩
      exact k H (Same.refl H)
    | wnon =>
      refine ⟨_, rfl, rfl, _, rfl, ?_⟩
      refine iteF ⟨_, rfl, .inr ⟨_, rfl, noStr_non, ?_⟩⟩
      exact k H (Same.refl H)
end
/-! ### tokens in memory -/
def TokAt (K : PySem.W.Frag) (H : Hp) (v : V) (t : Tok) : Prop := ∃ a, v = .ref a ∧ SqT K H a t.vals
def okW (t : Tok) : Prop := ∀ z ∈ t.words, isWord z = true
/-- a tuple with the head of t0 -/
def FormsAs (t0 : Tok) (rs : List V) (b : Bool) : Prop := rs.length ≤ 2 ∧ ((rs.length ≠ (fms t0).length ∧ b = false) ∨ (rs.length = (fms t0).length ∧ ∃ bs : List Bool, bs.length = rs.length ∧ (∀ i, ∀ h1 : i < (fms t0).length, ∀ h2 : i < rs.length, ∀ h3 : i < bs.length, Fit (fms t0)[i] rs[i] bs[i]) ∧ b = bs.all id))
inductive NoStr (K : PySem.W.Frag) (H : Hp) : V → Prop where
  | int (i : Int) : NoStr K H (.int i)
  | tup {a : Addr} {xs : List V} (h : SqT K H a xs) : NoStr K H (.ref a)
/-- what has no form of a token -/
inductive Bad (K : PySem.W.Frag) (H : Hp) : V → Prop where
  | non : Bad K H .non
  | int (i : Int) : Bad K H (.int i)
  | str (z : Str) : Bad K H (.str z)
  | lst {a : Addr} {xs : List V} (h : SqL K H a xs) : Bad K H (.ref a)
  | emp {a : Addr} (h : SqT K H a []) : Bad K H (.ref a)
  | head {a : Addr} {x : V} {xs : List V} (h : SqT K H a (x :: xs)) (n : NoStr K H x) : Bad K H (.ref a)
  | unk {a : Addr} {z : Str} {xs : List V} (h : SqT K H a (.str z :: xs)) (n : z = "gone" ∨ z = "Set") : Bad K H (.ref a)
  | form {a : Addr} (t0 : Tok) {rs : List V} (h : SqT K H a (.str t0.head :: rs)) (n : FormsAs t0 rs false) : Bad K H (.ref a)
def TV (K : PySem.W.Frag) (H : Hp) (v : V) : Option Tok → Prop
  | some t => TokAt K H v t ∧ okW t
  | none => Bad K H v
def spHasForm (K : PySem.W.Frag) : Sp := fun vs H Q _ => ∃ (v : V) (o : Option Tok), vs = [v] ∧ TV K H v o ∧ ∀ H', Same H H' → Q (.bl o.isSome) H'
end K13

set_option Elab.async false
set_option maxRecDepth 100000
set_option maxHeartbeats 4000000
set_option linter.all false
namespace K13
open PySem PySem.Spec PyProof.Rows L2
theorem at0 {x : V} {xs : List V} : atI (x :: xs) 0 = some x := atI_nat (xs := x :: xs) (j := 0) (by rfl)
theorem at1 {x y : V} {xs : List V} : atI (x :: y :: xs) 1 = some y := atI_nat (xs := x :: y :: xs) (j := 1) (by rfl)
theorem tyT {K : PySem.W.Frag} {H : Hp} {a : Addr} {xs : List V} (h : SqT K H a xs) : TyX K H (.ref a) (.type "tuple") := by
  rcases h with (h | ⟨o, h⟩) | ⟨o, _, _, h, hc, _⟩
  · exact .base (.tup h)
  · exact .fTuple h
  · exact .kTuple h hc
theorem tyL {K : PySem.W.Frag} {H : Hp} {a : Addr} {xs : List V} (h : SqL K H a xs) : TyX K H (.ref a) (.type "list") := by
  rcases h with (h | ⟨o, h⟩) | ⟨o, _, _, h, hc, _⟩
  · exact .base (.lst h)
  · exact .base (.frz h)
  · exact .kList h hc
theorem sameT {K : PySem.W.Frag} {H H' : Hp} {a : Addr} {xs : List V} (e : Same H H') (h : SqT K H a xs) : SqT K H' a xs := by
  rcases h with (h | ⟨o, h⟩) | h
  · exact .inl (.inl (e _ _ h))
  · exact .inl (.inr ⟨o, e _ _ h⟩)
  · exact .inr h
theorem TokAt.same {K : PySem.W.Frag} {H H' : Hp} {v : V} {t : Tok} (e : Same H H') (h : TokAt K H v t) : TokAt K H' v t := by
  obtain ⟨a, rfl, h⟩ := h
  exact ⟨a, rfl, sameT e h⟩
theorem NoStr.same {K : PySem.W.Frag} {H H' : Hp} {v : V} (e : Same H H') (h : NoStr K H v) : NoStr K H' v := by
  cases h with
  | int i => exact .int i
  | tup h => exact .tup (sameT e h)
theorem NoStr.ty {K : PySem.W.Frag} {H : Hp} {v : V} (h : NoStr K H v) : ∃ ty, TyX K H v ty ∧ PySem.W.kitOne K ty (.type "str") = some false := by
  cases h with
  | int i => exact ⟨_, .base (.int i), kit_ty (by decide +kernel)⟩
  | tup h => exact ⟨_, tyT h, kit_ty (by decide +kernel)⟩
theorem TV.same {K : PySem.W.Frag} {H H' : Hp} {v : V} {o : Option Tok} (e : Same H H') (h : TV K H v o) : TV K H' v o := by
  cases o with
  | some t => exact ⟨h.1.same e, h.2⟩
  | none =>
    cases (show Bad K H v from h) with
    | non => exact Bad.non
    | int i => exact Bad.int i
    | str z => exact Bad.str z
    | lst h2 => exact Bad.lst (e.seq h2)
    | emp h2 => exact Bad.emp (sameT e h2)
    | head h2 n => exact Bad.head (sameT e h2) (n.same e)
    | unk h2 n => exact Bad.unk (sameT e h2) n
    | form t0 h2 n => exact Bad.form t0 (sameT e h2) n
theorem word_len {z : Str} (h : isWord z = true) : z.length ≤ 8 := by
  unfold isWord at h
  simp only [Bool.and_eq_true, decide_eq_true_eq] at h
  omega
theorem word_line {z : Str} (h : isWord z = true) : z.length ≤ sizeLine := Nat.le_of_lt (small1000 (Nat.le_trans (word_len h) (by decide)))
/-- a good token's parts have their forms -/
theorem forms_good {t : Tok} (h : okW t) : FormsAs t t.rest true := by
  have w1 : ∀ z, isWord z = true → Fit (.str "word") (.str z) true := fun z hz => by
    have := Fit.word z (word_line hz)
    rwa [hz] at this
  have n1 : ∀ n : Nat, Fit (.str "number") (.int n) true := fun n => by
    have := Fit.num (n : Int)
    rwa [decide_eq_true (by omega : (0 : Int) ≤ n)] at this
  have two : ∀ (f1 f2 v1 v2 : V), Fit f1 v1 true → Fit f2 v2 true → ∀ i, ∀ h1 : i < [f1, f2].length, ∀ h2 : i < [v1, v2].length, ∀ h3 : i < [true, true].length, Fit [f1, f2][i] [v1, v2][i] [true, true][i] := fun f1 f2 v1 v2 a b i h1 h2 h3 => by
    match i with
    | 0 => exact a
    | 1 => exact b
    | j + 2 => simp only [List.length_cons, List.length_nil] at h1; omega
  have one : ∀ (f1 v1 : V), Fit f1 v1 true → ∀ i, ∀ h1 : i < [f1].length, ∀ h2 : i < [v1].length, ∀ h3 : i < [true].length, Fit [f1][i] [v1][i] [true][i] := fun f1 v1 a i h1 h2 h3 => by
    match i with
    | 0 => exact a
    | j + 1 => simp only [List.length_cons, List.length_nil] at h1; omega
  cases t with
  | begin z => exact ⟨by simp [Tok.rest], .inr ⟨rfl, [true], rfl, one _ _ (w1 z (h z (by simp [Tok.words]))), rfl⟩⟩
  | answer n z => exact ⟨by simp [Tok.rest], .inr ⟨rfl, [true, true], rfl, two _ _ _ _ (n1 n) (w1 z (h z (by simp [Tok.words]))), rfl⟩⟩
  | rang n => exact ⟨by simp [Tok.rest], .inr ⟨rfl, [true], rfl, one _ _ (n1 n), rfl⟩⟩
  | signal a b => exact ⟨by simp [Tok.rest], .inr ⟨rfl, [true, true], rfl, two _ _ _ _ (w1 a (h a (by simp [Tok.words]))) (w1 b (h b (by simp [Tok.words]))), rfl⟩⟩
  | asked z => exact ⟨by simp [Tok.rest], .inr ⟨rfl, [true], rfl, one _ _ (w1 z (h z (by simp [Tok.words]))), rfl⟩⟩
  | set => exact ⟨by simp [Tok.rest], .inr ⟨rfl, [], rfl, fun i h1 => by simp [fms, Tok.rest] at h1, rfl⟩⟩
  | dropped n => exact ⟨by simp [Tok.rest], .inr ⟨rfl, [true], rfl, one _ _ (n1 n), rfl⟩⟩
  | noted z => exact ⟨by simp [Tok.rest], .inr ⟨rfl, [true], rfl, one _ _ (w1 z (h z (by simp [Tok.words]))), rfl⟩⟩
  | marked z => exact ⟨by simp [Tok.rest], .inr ⟨rfl, [true], rfl, one _ _ (w1 z (h z (by simp [Tok.words]))), rfl⟩⟩
  | ended z => exact ⟨by simp [Tok.rest], .inr ⟨rfl, [true], rfl, one _ _ (w1 z (h z (by simp [Tok.words]))), rfl⟩⟩
  | anew z => exact ⟨by simp [Tok.rest], .inr ⟨rfl, [true], rfl, one _ _ (w1 z (h z (by simp [Tok.words]))), rfl⟩⟩
section
variable {P : Program} {w : World} {K : PySem.W.Frag} {mg : Str → Option Value} {base : Heap}
theorem ok_has_form {f : Addr} {fd : FuncData} (F : FnP K "has_form" "has_form" s_has_form f fd) (T : Tx w K mg) (G_fits : Def P w K mg base CX0 2 "fits" p_fits spFits) : FnOk P w K mg base CX0 3 f fd p_has_form (spHasForm K) := by
  refine F.ok sc_has_form (fun vs H Q E h => ?_) (fun cdv A outer s H vs Q E hr h => ?_)
  · obtain ⟨v, o, rfl, _⟩ := h
    rfl
  · obtain ⟨v, o, rfl, hv, k⟩ := h
    refine ⟨_, PSs.nox (pss_cons (ps_if (PW.pt (pw_or (pt_not (pt_val (pe_callB call_isi (by rfl) T.b_isinstance (by decide +kernel) (pa_cons (pv 0) (pa_cons (pe_bltn (v := .ty "tuple") (u := .type "tuple") (by rfl) T.b_tuple (by decide +kernel) rfl) pa_nil))))) (pw_or (pt_cmpR op_eq (pe_callB call_len_seq (by rfl) T.b_len PySem.boot_len (pa_cons (pv 0) pa_nil)) pe_int (nomark _)) (pw_or1 (pt_not (pt_val (pe_callB call_isi (by rfl) T.b_isinstance (by decide +kernel) (pa_cons (pe_ix ix_tup (pv 0) pe_int (fun _ _ => rfl)) (pa_cons (pe_bltn (v := .ty "str") (u := .type "str") (by rfl) T.b_str (by decide +kernel) rfl) pa_nil))))))))) (pss_one (ps_ret pe_bl)) pss_nil)
      (C8.pss_cut (ps_if (pt_cmpR (op_in_kd' T.D_OUTER_FORMS) (pe_ix ix_tup (pv 0) pe_int (fun _ _ => rfl)) (pe_ref (by rfl) T.m_OUTER_FORMS) (by rfl)) (pss_one (ps_set (i := 1) sc_has_form.nd rfl (.inl rfl) (pe_ix ix_kdict (pe_ref (by rfl) T.m_OUTER_FORMS) (pe_ix ix_tup (pv 0) pe_int (fun _ _ => rfl)) (fun _ _ => rfl)))) (pss_one (ps_if (pt_cmpR (op_in_kd' T.D_COMMAND_FORMS) (pe_ix ix_tup (pv 0) pe_int (fun _ _ => rfl)) (pe_ref (by rfl) T.m_COMMAND_FORMS) (by rfl)) (pss_one (ps_set (i := 1) sc_has_form.nd rfl (.inl rfl) (pe_ix ix_kdict (pe_ref (by rfl) T.m_COMMAND_FORMS) (pe_ix ix_tup (pv 0) pe_int (fun _ _ => rfl)) (fun _ _ => rfl)))) (pss_one (ps_ret pe_bl)))))
      (pss_cons (ps_if (pt_cmpR op_ne (pe_callB call_len_seq (by rfl) T.b_len PySem.boot_len (pa_cons (pv 0) pa_nil)) (pe_op op_add pe_int (pe_callB call_len_seq (by rfl) T.b_len PySem.boot_len (pa_cons (pv 1) pa_nil))) (nomark _)) (pss_one (ps_ret pe_bl)) pss_nil)
      (pss_one (ps_ret (pe_callB (cr_all rfl) (by rfl) T.b_all (by decide +kernel) (pa_cons (pe_lc (own := [("form", 2), ("part", 3)]) (g := (gTup K 2 (gCons (gName 2) (gCons (gName 3) gNil)))) (by rfl) sc_has_form.nd (RZ.pi_zipA (by rfl) T.b_zip (pa_cons (pv 1) (pa_cons (pe_slice sl_tup (pv 0) (po_some pe_int) po_none) pa_nil))) (blkOk_by (N := n_has_form) (sc := defScope s_has_form) (by decide +kernel)) (fun _ _ _ _ _ => (pg_tup (by rfl) (pgs_cons (pg_name (i := 2) sc_has_form.nd rfl (.inl rfl)) (pgs_cons (pg_name (i := 3) sc_has_form.nd rfl (.inl rfl)) pgs_nil)))) (fun _ _ _ _ _ => pts_nil) (fun _ _ _ _ _ => (pe_fn G_fits (hr.mono (by decide)) (by rfl) pass0 (pa_cons (pv 2) (pa_cons (pv 3) pa_nil))))) pa_nil))))))), ?_⟩
    have key : (∃ ty, TyX K H v ty ∧ PySem.W.kitOne K ty (.type "tuple") = some false ∧ o = none) ∨ (∃ a xs, v = .ref a ∧ SqT K H a xs ∧ o = none ∧ (xs = [] ∨ (∃ x r, xs = x :: r ∧ NoStr K H x) ∨ ∃ z r, xs = .str z :: r ∧ (z = "gone" ∨ z = "Set"))) ∨ ∃ (a : Addr) (t0 : Tok) (rs : List V), v = .ref a ∧ SqT K H a (.str t0.head :: rs) ∧ FormsAs t0 rs o.isSome := by
      cases o with
      | some t =>
        obtain ⟨⟨a, e, ha⟩, hw⟩ := hv
        exact .inr (.inr ⟨a, t, t.rest, e, ha, forms_good hw⟩)
      | none =>
        cases (show Bad K H v from hv) with
        | non => exact .inl ⟨_, .base .non, kit_ty (by decide +kernel), rfl⟩
        | int i => exact .inl ⟨_, .base (.int i), kit_ty (by decide +kernel), rfl⟩
        | str z => exact .inl ⟨_, .base (.str z), kit_ty (by decide +kernel), rfl⟩
        | lst h => exact .inl ⟨_, tyL h, kit_ty (by decide +kernel), rfl⟩
        | emp h => exact .inr (.inl ⟨_, _, rfl, h, rfl, .inl rfl⟩)
        | head h n => exact .inr (.inl ⟨_, _, rfl, h, rfl, .inr (.inl ⟨_, _, rfl, n⟩)⟩)
        | unk h n => exact .inr (.inl ⟨_, _, rfl, h, rfl, .inr (.inr ⟨_, _, rfl, n⟩)⟩)
        | form t0 h n => exact .inr (.inr ⟨_, t0, _, rfl, h, n⟩)
    rcases key with ⟨ty, n1, n2, rfl⟩ | ⟨a, xs, rfl, ha, rfl, hx⟩ | ⟨a, t0, rs, rfl, ha, hb⟩
    · refine ⟨_, rfl, v, .ty "tuple", _, _, false, rfl, .ty _, n1, n2, _, rfl, ?_⟩
      refine iteT ?_
      refine iteT ?_
      exact k H (Same.refl H)
    · refine ⟨_, rfl, .ref a, .ty "tuple", _, _, true, rfl, .ty _, tyT ha, kit_ty (by decide +kernel), _, rfl, ?_⟩
      refine iteF ⟨_, rfl, a, _, rfl, .inr ha, rfl, _, rfl, ?_⟩
      rcases hx with rfl | ⟨x, r, rfl, hn⟩ | ⟨z, r, rfl, hz⟩
      · refine iteT' (by rfl) ?_
        refine iteT ?_
        exact k H (Same.refl H)
      · refine iteF' (decide_eq_false (fun z => by
          injection z with z
          simp only [List.length_cons] at z
          omega)) ?_
        obtain ⟨ty, n1, n2⟩ := hn.ty
        refine ⟨_, rfl, a, _, _, x, rfl, rfl, ha, at0, x, .ty "str", _, _, false, rfl, .ty _, n1, n2, _, rfl, ?_⟩
        refine iteT ?_
        exact k H (Same.refl H)
      · refine iteF' (decide_eq_false (fun z => by
          injection z with z
          simp only [List.length_cons] at z
          omega)) ?_
        refine ⟨_, rfl, a, _, _, .str z, rfl, rfl, ha, at0, .str z, .ty "str", _, _, true, rfl, .ty _, .base (.str _), kit_ty (by decide +kernel), _, rfl, ?_⟩
        refine iteF ?_
        obtain ⟨u1, u2⟩ := T.hd.unk z hz
        refine ⟨fun _ _ => False, ?_, fun _ _ z => z.elim⟩
        refine ⟨_, rfl, a, _, _, .str z, rfl, rfl, ha, at0, _, _, rfl, rfl, u1, _, rfl, ?_⟩
        refine iteF ⟨_, rfl, a, _, _, .str z, rfl, rfl, ha, at0, _, _, rfl, rfl, u2, _, rfl, ?_⟩
        refine iteF ?_
        exact k H (Same.refl H)
    · obtain ⟨hl, hb⟩ := hb
      refine ⟨_, rfl, .ref a, .ty "tuple", _, _, true, rfl, .ty _, tyT ha, kit_ty (by decide +kernel), _, rfl, ?_⟩
      refine iteF ⟨_, rfl, a, _, rfl, .inr ha, rfl, _, rfl, ?_⟩
      have e0 : decide (V.int ((V.str t0.head :: rs).length : Int) = V.int 0) = false := decide_eq_false (fun z => by
        injection z with z
        simp only [List.length_cons] at z
        omega)
      refine iteF' e0 ?_
      refine ⟨_, rfl, a, _, _, .str t0.head, rfl, rfl, ha, at0, .str t0.head, .ty "str", _, _, true, rfl, .ty _, .base (.str _), kit_ty (by decide +kernel), _, rfl, ?_⟩
      refine iteF ?_
      refine ⟨fun σ' H' => H' = H ∧ ∃ p, (∀ H, SqT K H p (fms t0)) ∧ σ' = [some (.ref a), some (.ref p), none, none], ?_, ?_⟩
      · cases eo : t0.outer with
        | true =>
          obtain ⟨p, e1, e2⟩ := T.hd.out t0 eo
          refine ⟨_, rfl, a, _, _, .str t0.head, rfl, rfl, ha, at0, _, _, rfl, rfl, e1, _, rfl, ?_⟩
          refine iteT ⟨_, rfl, a, _, _, .str t0.head, rfl, rfl, ha, at0, _, _, .ref p, rfl, rfl, kdct T.D_OUTER_FORMS e1 rfl, ?_⟩
          exact ⟨rfl, p, e2, rfl⟩
        | false =>
          obtain ⟨p, e1, e2⟩ := T.hd.com t0 eo
          refine ⟨_, rfl, a, _, _, .str t0.head, rfl, rfl, ha, at0, _, _, rfl, rfl, T.hd.noOut t0 eo, _, rfl, ?_⟩
          refine iteF ⟨_, rfl, a, _, _, .str t0.head, rfl, rfl, ha, at0, _, _, rfl, rfl, e1, _, rfl, ?_⟩
          refine iteT ⟨_, rfl, a, _, _, .str t0.head, rfl, rfl, ha, at0, _, _, .ref p, rfl, rfl, kdct T.D_COMMAND_FORMS e1 rfl, ?_⟩
          exact ⟨rfl, p, e2, rfl⟩
      · rintro σ' H' ⟨rfl, p, hp, rfl⟩
        refine ⟨_, rfl, a, _, rfl, .inr ha, _, rfl, p, _, rfl, .inr (hp _), _, _, rfl, rfl, rfl, _, rfl, ?_⟩
        rcases hb with ⟨h1, h2⟩ | ⟨h1, bs, h2, h3, h4⟩
        · have e1 : (!decide (V.int ((V.str t0.head :: rs).length : Int) = V.int (1 + ((fms t0).length : Int)))) = true := by
            rw [decide_eq_false (fun z => by
              injection z with z
              simp only [List.length_cons] at z
              omega)]
            rfl
          refine iteT' e1 ?_
          rw [← h2]
          exact k _ (Same.refl _)
        · have e1 : (!decide (V.int ((V.str t0.head :: rs).length : Int) = V.int (1 + ((fms t0).length : Int)))) = false := by
            rw [decide_eq_true (by
              congr 1
              simp only [List.length_cons]
              omega)]
            rfl
          refine iteF' e1 ?_
          refine ⟨_, rfl, _, rfl, 1, rfl, a, _, rfl, ha, ?_, fun q nq => ?_⟩
          · rintro ⟨z, _⟩
            simp [HT.sIx] at z
          have ec : cutV (.str t0.head :: rs) (some 1) none = rs := by
            unfold cutV
            simp [HT.sIx]
          rw [ec]
          refine ⟨p, q, fms t0, rs, rfl, .inr ⟨hp _, SqT.of upd_same, fun D nD => ?_⟩⟩
          have ff : (fms t0).length = rs.length := h1.symm
          generalize eH : upd H' q (.tup rs) = H1
          rw [eH] at nD
          have hq : SqT K H1 q rs := SqT.of (by rw [← eH]; exact upd_same)
          have S1 : Same H' H1 := by rw [← eH]; exact Same.new nq
          refine lc_it (walk_zipT (K := K) (a := p) (b := q) (xs := fms t0) (ys := rs) (n := rs.length) (by rw [ff]; simp)) (fun i H2 => Same H1 H2 ∧ H2 D = some (.lst ((bs.take i).map V.bl))) ⟨Same.new nD, upd_same⟩
            (fun i H2 _ q2 => ⟨hp _, sameT q2.1 hq⟩) (fun i x H2 H3 hi p2 y => ?_) (fun H2 p2 => ?_)
          · obtain ⟨T1, fm, v, rfl, nT, rfl, hx, hy⟩ := y
            obtain ⟨S2, hD⟩ := p2
            have i1 : i < (fms t0).length := by omega
            have i3 : i < bs.length := by omega
            have hx' : (fms t0)[i]? = some fm := hx
            have hy' : rs[i]? = some v := hy
            rw [List.getElem?_eq_getElem i1] at hx'
            rw [List.getElem?_eq_getElem hi] at hy'
            cases hx'
            cases hy'
            refine ⟨T1, _, rfl, SqT.of upd_same, rfl, _, _, rfl, _, _, rfl, rfl, rfl, ?_⟩
            refine tYes_ ?_
            refine iteT ?_
            refine ⟨_, rfl, _, rfl, _, _, _, rfl, h3 i i1 hi i3, fun H4 S4 => ?_⟩
            have hD4 : H4 D = some (.lst ((bs.take i).map V.bl)) := S4 _ _ (by rw [upd_ne (ne_of_none hD nT)]; exact hD)
            refine ⟨_, hD4, ?_, fun b o hb => ?_, ?_⟩
            · rw [List.length_map, List.length_take]
              exact small1000 (by omega)
            · have nb : b ≠ D := fun z => by rw [z, nD] at hb; cases hb
              rw [upd_ne nb]
              exact S4 _ _ (by rw [upd_ne (ne_of_none (S2 _ _ hb) nT)]; exact S2 _ _ hb)
            · rw [upd_same, take_more (List.getElem?_eq_getElem i3), List.map_append]
              rfl
          · obtain ⟨S2, hD⟩ := p2
            refine ⟨D, bs, rfl, SqL.of ?_, ?_⟩
            · rw [hD, ← h2, List.take_length]
            · rw [← h4]
              exact k _ (S1.trans S2)
end
end K13

set_option Elab.async false
set_option maxRecDepth 100000
set_option maxHeartbeats 4000000
set_option linter.all false
namespace K13
open PySem PySem.Spec PyProof.Rows L2
def spIsOuter (K : PySem.W.Frag) : Sp := fun vs H Q _ => ∃ (v : V) (t : Tok), vs = [v] ∧ TokAt K H v t ∧ Q (.bl t.outer) H
abbrev nats (ns : List Nat) : List V := ns.map fun n : Nat => V.int (n : Int)
def spPlace (K : PySem.W.Frag) : Sp := fun vs H Q _ => ∃ (l : Addr) (ns : List Nat) (n : Nat), vs = [.ref l, .int n] ∧ SqL K H l (nats ns) ∧ ns.Pairwise (· < ·) ∧ n ∈ ns ∧ ns.length ≤ 1000 ∧ Q (.int (ns.idxOf n : Nat)) H
theorem srt_lt {ns : List Nat} (h : ns.Pairwise (· < ·)) {i j : Nat} (hi : i < ns.length) (hj : j < ns.length) : ns[i] < ns[j] ↔ i < j := by
  have key := List.pairwise_iff_getElem.mp h
  constructor
  · intro q
    by_cases c : i < j
    · exact c
    · rcases Nat.lt_or_eq_of_le (Nat.le_of_not_lt c) with c | c
      · have := key j i hj hi c
        omega
      · subst c
        omega
  · exact key i j hi hj
section
variable {P : Program} {w : World} {K : PySem.W.Frag} {mg : Str → Option Value} {base : Heap}
theorem ok_is_outer {f : Addr} {fd : FuncData} (F : FnP K "is_outer" "is_outer" s_is_outer f fd) (T : Tx w K mg) : FnOk P w K mg base CX0 1 f fd p_is_outer (spIsOuter K) := by
  refine F.ok sc_is_outer (fun vs H Q E h => ?_) (fun cdv A outer s H vs Q E hr h => ?_)
  · obtain ⟨v, t, rfl, _⟩ := h
    rfl
  · obtain ⟨v, t, rfl, ⟨a, rfl, ha⟩, k⟩ := h
    refine ⟨_, PSs.nox (pss_one (ps_ret (pe_cmpR (op_in_kd' T.D_OUTER_FORMS) (pe_ix ix_tup (pv 0) pe_int (fun _ _ => rfl)) (pe_ref (by rfl) T.m_OUTER_FORMS) (by rfl)))), ?_⟩
    cases eo : t.outer with
    | true =>
      rw [eo] at k
      obtain ⟨p, e1, e2⟩ := T.hd.out t eo
      exact ⟨_, rfl, a, _, _, .str t.head, rfl, rfl, ha, at0, _, _, rfl, rfl, e1, k⟩
    | false =>
      rw [eo] at k
      exact ⟨_, rfl, a, _, _, .str t.head, rfl, rfl, ha, at0, _, _, rfl, rfl, T.hd.noOut t eo, k⟩
end
end K13

set_option Elab.async false
set_option maxRecDepth 100000
set_option maxHeartbeats 4000000
set_option linter.all false
/-! what serves of the first way: lists, tokens, turns in memory -/
namespace L2
open PySem PySem.Spec PyProof.Rows
section
variable {X : Cx} {CX : CXT} {k : Nat} {C : Addr} {ps : List Str} {sp : Sp} {E : XK} {W : WX} {x : Str} {e : Expr} {es : List Expr} {t : TA} {p pos : Pos}
theorem pe_fnS (c : Def X.prog X.w X.K X.mg X.base (L2.CX X.prog X.w) k x ps sp) (hr : Room k X.A) (hg : Gl X x) (tk : Takes X W) (ha : PA X (e :: es) t)
    (hdb : (x == ("__debug__" : Str)) = false := by decide) (he : starEach (e :: es) X.env = (false, eval e X.env) :: starEach es X.env := by rfl)
    (hpl : (backTo pos (starEach es X.env)).any (·.1) = false := by rfl) : PE X (.Call (.Name x p) (e :: es) [] pos) (tCallS sp (WE W) t) := by
  obtain ⟨f, fd, hm, hk, hb, F⟩ := c.ex
  exact pe_callS F hr hg hm hk hb (fun σ => passAt tk σ) ha hdb he hpl
end
end L2
namespace K13
open PySem PySem.Spec PyProof.Rows L2
def kindAt (s : S) (n : Int) : Option V := if 0 ≤ n ∧ n.toNat ∈ s.run then (s.kinds[n.toNat]?).map (fun k => V.str (kindS k)) else none
def ageIn (ths : List Nat) (t : Tok) : Tok := match t.num? with
  | some n => t.withN (ths.idxOf n)
  | none => t
theorem srt_ge {ns : List Nat} (h : ns.Pairwise (· < ·)) : ∀ (i : Nat) (hi : i < ns.length), i ≤ ns[i]
  | 0, _ => Nat.zero_le _
  | i + 1, hi => by
    have h1 := srt_ge h i (by omega)
    have h2 := (srt_lt h (i := i) (j := i + 1) (by omega) hi).mpr (by omega)
    omega
theorem srt_few {ns : List Nat} {m : Nat} (h : ns.Pairwise (· < ·)) (f : ∀ n ∈ ns, n < m) : ns.length ≤ m := by
  rcases Nat.eq_zero_or_pos ns.length with z | z
  · omega
  · have h1 := srt_ge h (ns.length - 1) (by omega)
    have h2 := f _ (List.getElem_mem (show ns.length - 1 < ns.length by omega))
    omega
theorem upd_self {H : Hp} {a : Addr} {o : HO} (h : H a = some o) : upd H a o = H := funext fun b => by
  by_cases z : b = a
  · rw [z, upd_same, h]
  · rw [upd_ne z]
theorem seqIx {i n : Nat} (h : i < n) : seqIndex? (i : Int) n = some i := by
  unfold seqIndex?
  have h0 : ¬ (i : Int) < 0 := by omega
  have h1 : (decide (0 ≤ (i : Int)) && decide ((i : Int) < (n : Int))) = true := by
    rw [decide_eq_true (by omega), decide_eq_true (by omega)]
    rfl
  simp only [h0, if_false, h1, if_true, Int.toNat_natCast]
theorem map_eraseIdx {α β : Type} (f : α → β) : ∀ (l : List α) (i : Nat), (l.map f).eraseIdx i = (l.eraseIdx i).map f
  | [], _ => rfl
  | _ :: _, 0 => rfl
  | a :: l, i + 1 => by simp [List.eraseIdx_cons_succ, map_eraseIdx f l i]
theorem nats_erase {ns : List Nat} {n : Nat} (nd : ns.Nodup) : (nats ns).eraseIdx (ns.idxOf n) = nats (ns.filter (· != n)) := by
  rw [← nd.erase_eq_filter n, List.erase_eq_eraseIdx_of_idxOf (i := ns.idxOf n) rfl]
  exact map_eraseIdx _ _ _
theorem srt_nodup {ns : List Nat} (h : ns.Pairwise (· < ·)) : ns.Nodup := h.imp (fun {a b} (q : a < b) => Nat.ne_of_lt q)
theorem nats_get {ns : List Nat} {i : Nat} {x : V} (h : (nats ns)[i]? = some x) : ∃ n, ns[i]? = some n ∧ x = V.int (n : Nat) := by
  rw [List.getElem?_map] at h
  cases e : ns[i]? with
  | none => rw [e] at h; cases h
  | some n => rw [e] at h; exact ⟨n, rfl, (Option.some.inj h).symm⟩
def tail2 (t : Tok) : List V := t.rest.drop 1
theorem vals_num {t : Tok} {n : Nat} (e : t.num? = some n) : t.vals = .str t.head :: .int n :: tail2 t := by
  cases t <;> simp_all [Tok.num?, Tok.vals, Tok.rest, Tok.head, tail2]
theorem vals_with {t : Tok} {n : Nat} (e : t.num? = some n) (a : Nat) : (t.withN a).vals = .str t.head :: .int a :: tail2 t := by
  cases t <;> simp_all [Tok.num?, Tok.vals, Tok.rest, Tok.head, tail2, Tok.withN]
theorem tail2_len (t : Tok) : (tail2 t).length ≤ 1 := by
  cases t <;> simp [tail2, Tok.rest]
theorem cut2 {x y : V} {r : List V} : cutV (x :: y :: r) (some 2) none = r := by
  unfold cutV
  simp [HT.sIx]
theorem notwhole2 {x y : V} {r : List V} : ¬ (HT.sIx (x :: y :: r).length 0 (some 2) = 0 ∧ HT.sIx (x :: y :: r).length (x :: y :: r).length none = (x :: y :: r).length) := by
  rintro ⟨z, _⟩
  simp [HT.sIx] at z
def mayO (s : S) : Option Tok → Bool
  | some t => may s t
  | none => false
theorem dec_str (x y : Str) : decide (V.str x = V.str y) = (x == y) := by
  by_cases h : x = y
  · subst h; simp
  · rw [decide_eq_false (fun z => h (by injection z)), beq_eq_false_iff_ne.mpr h]
theorem dec_begin (t : Tok) : decide (V.str t.head = V.str "begin") = t.isBegin := by
  rw [dec_str]
  have h1 : (("begin" : Str) == "begin") = true := by decide +kernel
  have h2 : (("answer" : Str) == "begin") = false := by decide +kernel
  have h3 : (("rang" : Str) == "begin") = false := by decide +kernel
  have h4 : (("signal" : Str) == "begin") = false := by decide +kernel
  have h5 : (("asked" : Str) == "begin") = false := by decide +kernel
  have h6 : (("set" : Str) == "begin") = false := by decide +kernel
  have h7 : (("dropped" : Str) == "begin") = false := by decide +kernel
  have h8 : (("noted" : Str) == "begin") = false := by decide +kernel
  have h9 : (("marked" : Str) == "begin") = false := by decide +kernel
  have h10 : (("ended" : Str) == "begin") = false := by decide +kernel
  have h11 : (("anew" : Str) == "begin") = false := by decide +kernel
  cases t <;> assumption
theorem dec_len (n : Nat) : decide (V.int (n : Nat) = V.int 0) = (n == 0) := by
  cases n with
  | zero => rfl
  | succ m =>
    rw [decide_eq_false (fun z => by injection z with z; omega)]
    rfl
theorem ks1 : (("timer" : Str) == "ask") = false := by decide +kernel
theorem ks2 : (("ask" : Str) == "timer") = false := by decide +kernel
theorem in_nms {s : S} {t : Tok} {n : Nat} (e : t.num? = some n) (g : Good s) : inV ((kindAt s n).getD .non) (nms t) = kindOk s t := by
  have h0 : (0 : Int) ≤ (n : Nat) := by omega
  have hk : kindAt s (n : Nat) = if n ∈ s.run then (s.kinds[n]?).map (fun k => V.str (kindS k)) else none := by
    unfold kindAt
    simp [h0]
  rw [hk]
  by_cases hm : n ∈ s.run
  · rw [if_pos hm]
    obtain ⟨b, hb⟩ : ∃ b, s.kinds[n]? = some b := ⟨_, List.getElem?_eq_getElem (g.few' n hm)⟩
    rw [hb]
    have hc : s.run.contains n = true := by simpa using hm
    cases t <;> simp [Tok.num?] at e <;> subst e <;> simp only [kindOk, hc, hb, Bool.true_and, Option.map_some, Option.getD_some, nms] <;> cases b <;> decide +kernel
  · rw [if_neg hm]
    have hc : s.run.contains n = false := by simpa using hm
    cases t <;> simp [Tok.num?] at e <;> subst e <;> simp only [kindOk, hc, Bool.false_and, Option.getD_none, nms] <;> decide +kernel
theorem valV_dropK {kvs : List (Key × V)} (k j : Key) : valV (dropK kvs k) j = if j = k then none else valV kvs j := by
  induction kvs with
  | nil => simp [dropK, valV]
  | cons p r ih =>
    by_cases h : p.1 = k
    · rw [dropK_pos h, ih]
      by_cases hj : j = k
      · rw [if_pos hj, if_pos hj]
      · rw [if_neg hj, if_neg hj]
        have : ¬ p.1 = j := fun z => hj (z.symm.trans h)
        obtain ⟨k1, v1⟩ := p
        exact (valV_neg this).symm
    · have e : dropK (p :: r) k = p :: dropK r k := by
        unfold dropK
        rw [List.filter_cons_of_pos (by simpa using h)]
      rw [e]
      obtain ⟨k1, v1⟩ := p
      by_cases hp : k1 = j
      · subst hp
        rw [valV_pos rfl, valV_pos rfl, if_neg h]
      · rw [valV_neg hp, valV_neg hp, ih]
theorem nodup_le : ∀ {l m : List Nat}, l.Nodup → (∀ x ∈ l, x ∈ m) → l.length ≤ m.length
  | [], _, _, _ => Nat.zero_le _
  | a :: l, m, nd, h => by
    have ha := h a List.mem_cons_self
    have h1 := nodup_le (l := l) (m := m.erase a) (List.nodup_cons.mp nd).2 fun x hx => by
      have hne : x ≠ a := fun z => (List.nodup_cons.mp nd).1 (z ▸ hx)
      exact (List.mem_erase_of_ne hne).mpr (h x (List.mem_cons_of_mem _ hx))
    have h2 := List.length_erase_of_mem ha
    have h3 : 0 < m.length := List.length_pos_of_mem ha
    simp only [List.length_cons]
    omega
theorem kind_start {s : S} (g : Good s) {k : Bool} {ths : List Nat} {len : Nat} {fin : Bool} (j : Int) :
    kindAt ⟨s.run ++ [s.kinds.length], s.kinds ++ [k], ths, len, fin⟩ j = if j = (s.kinds.length : Nat) then some (V.str (kindS k)) else kindAt s j := by
  unfold kindAt
  by_cases h : j = (s.kinds.length : Nat)
  · subst h
    simp
  · rw [if_neg h]
    by_cases h0 : 0 ≤ j
    · have hne : j.toNat ≠ s.kinds.length := by omega
      have hm : (j.toNat ∈ s.run ++ [s.kinds.length]) ↔ j.toNat ∈ s.run := by simp [hne]
      by_cases hr : j.toNat ∈ s.run
      · have hl := g.few' _ hr
        simp [h0, hr, List.getElem?_append_left hl]
      · simp [h0, hr, hne]
    · simp [h0]
theorem kind_none {s : S} (g : Good s) : kindAt s (s.kinds.length : Nat) = none := by
  unfold kindAt
  rw [if_neg]
  rintro ⟨_, h⟩
  have := g.few' _ h
  simp at this
theorem kind_drop {s : S} (g : Good s) {n : Nat} {ths : List Nat} {len : Nat} {fin : Bool} (j : Int) :
    kindAt ⟨s.run.erase n, s.kinds, ths, len, fin⟩ j = if j = (n : Nat) then none else kindAt s j := by
  unfold kindAt
  have nd := srt_nodup g.srr
  by_cases h : j = (n : Nat)
  · subst h
    simp [nd.mem_erase_iff]
  · rw [if_neg h]
    by_cases h0 : 0 ≤ j
    · have hne : j.toNat ≠ n := by omega
      simp [h0, nd.mem_erase_iff, hne]
    · simp [h0]
theorem last_in (t : Tok) : inV (.str t.head) [.str "ended", .str "anew"] = t.last := by
  cases t <;> simp only [Tok.head, Tok.last] <;> decide +kernel
def st1 (s : S) (t : Tok) : S := if t.outer then bt s else s
theorem st1_go (s : S) (t : Tok) : go (st1 s t) t = go s t ∧ ths0 (st1 s t) t = (st1 s t).ths := by
  unfold st1
  cases o : t.outer with
  | true => exact ⟨go_bt o, by simp [ths0, o, bt]⟩
  | false => exact ⟨rfl, by simp [ths0, o]⟩
theorem st1_kind (s : S) (t : Tok) : kindOk (st1 s t) t = kindOk s t ∧ (st1 s t).len = s.len := by
  unfold st1
  split
  · exact ⟨by cases t <;> rfl, rfl⟩
  · exact ⟨rfl, rfl⟩
inductive All2 {α β : Type} (R : α → β → Prop) : List α → List β → Prop where
  | nil : All2 R [] []
  | cons {x : α} {y : β} {xs : List α} {ys : List β} (h : R x y) (t : All2 R xs ys) : All2 R (x :: xs) (y :: ys)
namespace All2
variable {α β : Type} {R R' : α → β → Prop}
theorem len {xs : List α} {ys : List β} (h : All2 R xs ys) : xs.length = ys.length := by
  induction h with
  | nil => rfl
  | cons _ _ ih => simp [ih]
theorem get {xs : List α} {ys : List β} (h : All2 R xs ys) : ∀ {i : Nat} {x : α}, xs[i]? = some x → ∃ y, ys[i]? = some y ∧ R x y := by
  induction h with
  | nil => intro i x hx; simp at hx
  | cons h _ ih =>
    intro i x hx
    cases i with
    | zero => simp at hx; subst hx; exact ⟨_, rfl, h⟩
    | succ i => exact ih (by simpa using hx)
theorem imp {xs : List α} {ys : List β} (h : All2 R xs ys) (f : ∀ x y, x ∈ xs → R x y → R' x y) : All2 R' xs ys := by
  induction h with
  | nil => exact .nil
  | cons h _ ih => exact .cons (f _ _ List.mem_cons_self h) (ih fun x y hx => f x y (List.mem_cons_of_mem _ hx))
theorem app {xs xs' : List α} {ys ys' : List β} (h : All2 R xs ys) (h' : All2 R xs' ys') : All2 R (xs ++ xs') (ys ++ ys') := by
  induction h with
  | nil => exact h'
  | cons h _ ih => exact .cons h ih
theorem one {x : α} {y : β} (h : R x y) : All2 R [x] [y] := .cons h .nil
theorem back {xs : List α} {ys : List β} {y : β} (h : All2 R xs (ys ++ [y])) : ∃ xs0 x, xs = xs0 ++ [x] ∧ All2 R xs0 ys ∧ R x y := by
  induction ys generalizing xs with
  | nil =>
    cases h with
    | cons h t => cases t; exact ⟨[], _, rfl, .nil, h⟩
  | cons a ys ih =>
    cases h with
    | cons h t =>
      obtain ⟨xs0, x, rfl, h1, h2⟩ := ih t
      exact ⟨_ :: xs0, x, rfl, .cons h h1, h2⟩
end All2
def LT (K : PySem.W.Frag) (H : Hp) (r : Addr) (ts : List Tok) : Prop := ∃ xs, H r = some (.lst xs) ∧ All2 (TokAt K H) xs ts
def TurnsAt (K : PySem.W.Frag) (H : Hp) (p : Addr) (rs : List Addr) (turns : List (List Tok)) : Prop := H p = some (.lst (rs.map V.ref)) ∧ All2 (LT K H) rs turns
def Fresh (H : Hp) (p : Addr) (rs : List Addr) : Prop := H p = none ∧ (∀ r ∈ rs, H r = none) ∧ p ∉ rs ∧ rs.Nodup
theorem LT.same {K : PySem.W.Frag} {H H' : Hp} {r : Addr} {ts : List Tok} (e : Same H H') (h : LT K H r ts) : LT K H' r ts := by
  obtain ⟨xs, h1, h2⟩ := h
  exact ⟨xs, e _ _ h1, h2.imp fun x y _ => TokAt.same e⟩
theorem TurnsAt.same {K : PySem.W.Frag} {H H' : Hp} {p : Addr} {rs : List Addr} {ts : List (List Tok)} (e : Same H H') (h : TurnsAt K H p rs ts) : TurnsAt K H' p rs ts :=
  ⟨e _ _ h.1, h.2.imp fun x y _ => LT.same e⟩
theorem TokAt.stay {K : PySem.W.Frag} {H H' : Hp} {v : V} {t : Tok} (e : ∀ a xs, SqT K H a xs → SqT K H' a xs) (h : TokAt K H v t) : TokAt K H' v t := by
  obtain ⟨a, rfl, h⟩ := h
  exact ⟨a, rfl, e _ _ h⟩
theorem updT {K : PySem.W.Frag} {H : Hp} {p : Addr} {xs ys : List V} (h : H p = some (.lst xs)) {a : Addr} {zs : List V} (ht : SqT K H a zs) : SqT K (upd H p (.lst ys)) a zs := by
  rcases ht with (ht | ⟨o, ht⟩) | ht
  · exact .inl (.inl (by rw [upd_ne (ne_of ht h (by intro z; cases z))]; exact ht))
  · exact .inl (.inr ⟨o, by rw [upd_ne (ne_of ht h (by intro z; cases z))]; exact ht⟩)
  · exact .inr ht
theorem turns_new {K : PySem.W.Frag} {H : Hp} {p r : Addr} {rs : List Addr} {acc : List (List Tok)} (h : TurnsAt K H p rs acc) (hn : p ∉ rs) (nr : H r = none) :
    TurnsAt K (upd (upd H r (.lst [])) p (.lst (rs.map V.ref ++ [.ref r]))) p (rs ++ [r]) (acc ++ [[]]) := by
  have hpr : r ≠ p := (ne_of_none h.1 nr).symm
  have hp' : upd H r (.lst []) p = some (.lst (rs.map V.ref)) := by rw [upd_ne hpr.symm]; exact h.1
  refine ⟨by rw [upd_same, List.map_append]; rfl, ?_⟩
  refine All2.app (h.2.imp fun x y hx q => ?_) (All2.one ⟨[], by rw [upd_ne hpr, upd_same], .nil⟩)
  obtain ⟨xs, h1, h2⟩ := q
  have hxp : x ≠ p := fun z => hn (z ▸ hx)
  exact ⟨xs, by rw [upd_ne hxp, upd_ne (ne_of_none h1 nr)]; exact h1, h2.imp fun a b _ => TokAt.stay fun c zs hz => updT hp' (sameT (Same.new nr) hz)⟩
theorem turns_add {K : PySem.W.Frag} {H : Hp} {p r : Addr} {rs : List Addr} {acc : List (List Tok)} {l : List Tok} {ys : List V} {v : V} {t : Tok} (h : TurnsAt K H p (rs ++ [r]) (acc ++ [l])) (hn : p ∉ rs ++ [r]) (nd : (rs ++ [r]).Nodup)
    (hr : H r = some (.lst ys)) (hv : TokAt K H v t) : TurnsAt K (upd H r (.lst (ys ++ [v]))) p (rs ++ [r]) (acc ++ [l ++ [t]]) := by
  obtain ⟨h1, h2⟩ := h
  have hpr : p ≠ r := fun z => hn (by rw [z]; simp)
  refine ⟨by rw [upd_ne hpr]; exact h1, ?_⟩
  obtain ⟨rs0, r0, e, h3, ys', h4, h5⟩ := h2.back
  obtain ⟨e1, e2⟩ := List.append_inj' e rfl
  subst e1
  cases e2
  rw [hr] at h4
  cases h4
  refine All2.app (h3.imp fun x y hx q => ?_) (All2.one ⟨_, upd_same, All2.app (h5.imp fun a b _ => TokAt.stay fun c zs hz => updT hr hz) (All2.one (hv.stay fun c zs hz => updT hr hz))⟩)
  obtain ⟨xs, q1, q2⟩ := q
  have hxr : x ≠ r := fun z => by
    have := (List.nodup_append.mp nd).2.2 x hx r (by simp)
    exact this z
  exact ⟨xs, by rw [upd_ne hxr]; exact q1, q2.imp fun a b _ => TokAt.stay fun c zs hz => updT hr hz⟩
theorem TurnsAt.mem {K : PySem.W.Frag} {H : Hp} {p r : Addr} {rs : List Addr} {ts : List (List Tok)} (h : TurnsAt K H p rs ts) (hr : r ∈ rs) : ∃ xs, H r = some (.lst xs) := by
  obtain ⟨i, hi, e⟩ := List.mem_iff_getElem.mp hr
  obtain ⟨y, _, xs, q, _⟩ := h.2.get (i := i) (x := r) (by rw [List.getElem?_eq_getElem hi, e])
  exact ⟨xs, q⟩
theorem turns_last {K : PySem.W.Frag} {H : Hp} {p : Addr} {rs : List Addr} {acc : List (List Tok)} {l : List Tok} (h : TurnsAt K H p rs (acc ++ [l])) : ∃ rs0 r ys, rs = rs0 ++ [r] ∧ H r = some (.lst ys) ∧ All2 (LT K H) rs0 acc ∧ All2 (TokAt K H) ys l := by
  obtain ⟨rs0, r, e, h3, ys, h4, h5⟩ := h.2.back
  exact ⟨rs0, r, ys, e, h4, h3, h5⟩
theorem cutOn_ne (acc : List (List Tok)) (t : Tok) : cutOn acc t ≠ [] := by
  unfold cutOn
  split <;> simp
theorem go_len (s : S) (t : Tok) : (go s t).len = s.len + 1 := by
  unfold go
  split
  · rfl
  · split <;> rfl
theorem goAll_len : ∀ (ts : List Tok) (s : S), (goAll s ts).len = s.len + ts.length
  | [], s => rfl
  | t :: r, s => by rw [goAll, goAll_len r, go_len, List.length_cons]; omega
theorem goAll_app : ∀ (ts us : List Tok) (s : S), goAll s (ts ++ us) = goAll (goAll s ts) us
  | [], us, s => rfl
  | t :: r, us, s => goAll_app r us (go s t)
theorem valid_app : ∀ (ts us : List Tok) (s : S), valid s (ts ++ us) = (valid s ts && valid (goAll s ts) us)
  | [], us, s => by simp [valid, goAll]
  | t :: r, us, s => by
    show (may s t && valid (go s t) (r ++ us)) = ((may s t && valid (go s t) r) && valid (goAll (go s t) r) us)
    rw [valid_app r us, Bool.and_assoc]
theorem fold_ne (ts : List Tok) (h : ts ≠ []) : ts.foldl cutOn [] ≠ [] := by
  rcases List.eq_nil_or_concat ts with e | ⟨l, a, e⟩
  · exact absurd e h
  · rw [e, List.concat_eq_append, List.foldl_append]
    exact cutOn_ne _ _
theorem cutOn_few {acc : List (List Tok)} {n : Nat} (t : Tok) (h : acc.length ≤ n ∧ ∀ l ∈ acc, l.length ≤ n) : (cutOn acc t).length ≤ n + 1 ∧ ∀ l ∈ cutOn acc t, l.length ≤ n + 1 := by
  obtain ⟨h1, h2⟩ := h
  unfold cutOn
  split
  · refine ⟨by simp; omega, fun l hl => ?_⟩
    rcases List.mem_append.mp hl with q | q
    · have := h2 l q; omega
    · rw [List.mem_singleton.mp q]; simp
  · refine ⟨by simp; omega, fun l hl => ?_⟩
    rcases List.mem_append.mp hl with q | q
    · have := h2 l ((List.dropLast_sublist acc).subset q); omega
    · rw [List.mem_singleton.mp q]
      rcases List.eq_nil_or_concat acc with e | ⟨l', a, e⟩
      · rw [e]; simp
      · have := h2 a (by rw [e]; simp)
        rw [e]
        simp
        omega
theorem fold_few (ts : List Tok) : (ts.foldl cutOn []).length ≤ ts.length ∧ ∀ l ∈ ts.foldl cutOn [], l.length ≤ ts.length := by
  have key : ∀ (ts : List Tok) (acc : List (List Tok)) (n : Nat), (acc.length ≤ n ∧ ∀ l ∈ acc, l.length ≤ n) → (ts.foldl cutOn acc).length ≤ n + ts.length ∧ ∀ l ∈ ts.foldl cutOn acc, l.length ≤ n + ts.length := by
    intro ts
    induction ts with
    | nil => intro acc n h; exact h
    | cons t r ih =>
      intro acc n h
      have := ih (cutOn acc t) (n + 1) (cutOn_few t h)
      simp only [List.foldl_cons, List.length_cons]
      have e : n + (r.length + 1) = n + 1 + r.length := by omega
      rw [e]
      exact this
  have := key ts [] 0 ⟨by simp, by simp⟩
  simpa using this
theorem not_begin {s : S} {t : Tok} (m : may s t = true) (o : t.outer = false) : s.len ≠ 0 := by
  have := (may_kind m).2.2
  intro z
  rw [z] at this
  cases t <;> simp_all [Tok.isBegin, Tok.outer]
theorem none2 {H : Hp} {a b c : Addr} {o o' : HO} (h : upd (upd H a o) b o' c = none) : H c = none := by
  by_cases h1 : c = b
  · rw [h1, upd_same] at h
    cases h
  · rw [upd_ne h1] at h
    by_cases h2 : c = a
    · rw [h2, upd_same] at h
      cases h
    · rw [upd_ne h2] at h
      exact h
theorem none1 {H : Hp} {a c : Addr} {o : HO} (h : upd H a o c = none) : H c = none := by
  by_cases h1 : c = a
  · rw [h1, upd_same] at h
    cases h
  · rw [upd_ne h1] at h
    exact h
def spCut (K : PySem.W.Frag) : Sp := fun vs H Q _ => ∃ (h : Addr) (xs : List V) (ts : List Tok), vs = [.ref h] ∧ SqL K H h xs ∧ All2 (TokAt K H) xs ts ∧ ts ≠ [] ∧ valid s0 ts = true ∧ (∀ t ∈ ts, okW t) ∧ ts.length ≤ 400 ∧
  ∀ (H' : Hp) (p : Addr) (rs : List Addr), Same H H' → Fresh H p rs → TurnsAt K H' p rs (cutAll ts) → Q (.ref p) H'
def spAged (K : PySem.W.Frag) : Sp := fun vs H Q _ => ∃ (h : Addr) (xs : List V) (ts : List Tok), vs = [.ref h] ∧ SqL K H h xs ∧ All2 (TokAt K H) xs ts ∧ ts ≠ [] ∧ valid s0 ts = true ∧ (∀ t ∈ ts, okW t) ∧ ts.length ≤ 63 ∧
  ∀ (H' : Hp) (p : Addr) (rs : List Addr), Same H H' → Fresh H p rs → TurnsAt K H' p rs (cutAll (ageAll s0 ts)) → Q (.ref p) H'
theorem ageAll_app : ∀ (ts us : List Tok) (s : S), ageAll s (ts ++ us) = ageAll s ts ++ ageAll (goAll s ts) us
  | [], us, s => rfl
  | t :: r, us, s => by
    show age s t :: ageAll (go s t) (r ++ us) = age s t :: (ageAll (go s t) r ++ ageAll (goAll (go s t) r) us)
    rw [ageAll_app r us]
theorem ageAll_len : ∀ (ts : List Tok) (s : S), (ageAll s ts).length = ts.length
  | [], s => rfl
  | t :: r, s => by simp [ageAll, ageAll_len r]
theorem age_go {s : S} {t : Tok} : ageIn (go s t).ths t = age s t := by
  cases en : t.num? with
  | some n =>
    have es : t.start? = none := by cases t <;> simp_all [Tok.num?, Tok.start?]
    have : (go s t).ths = ths0 s t := by unfold go; rw [es, en]
    simp only [ageIn, age, en, this]
  | none => simp only [ageIn, age, en]
theorem num_ths {s : S} {t : Tok} {n : Nat} (g : Good s) (en : t.num? = some n) (k : kindOk s t = true) : n ∈ (go s t).ths := by
  have es : t.start? = none := by cases t <;> simp_all [Tok.num?, Tok.start?]
  have : (go s t).ths = ths0 s t := by unfold go; rw [es, en]
  rw [this]
  exact (g.ths0 t).2.1 n (kind_run en k)
theorem flat_R : ∀ ts : List Tok, (cutR ts).1 ++ (cutR ts).2.flatten = ts
  | [] => rfl
  | t :: r => by
    have ih := flat_R r
    cases o : t.outer with
    | true =>
      simp only [cutR, o, if_true, List.nil_append, List.flatten_cons, List.cons_append]
      rw [ih]
    | false =>
      simp only [cutR, o, Bool.false_eq_true, if_false, List.cons_append]
      rw [ih]
theorem flat_cut {ts : List Tok} (ne : ts ≠ []) (v : valid s0 ts = true) : (cutAll ts).flatten = ts := by
  cases ts with
  | nil => exact absurd rfl ne
  | cons t r =>
    have o := begin_outer v
    rw [cutAll_R o]
    have := flat_R (t :: r)
    have e4 : (cutR (t :: r)).1 = [] := by simp [cutR, o]
    rw [e4] at this
    exact this
theorem ageTurns_app : ∀ (a b : List (List Tok)) (s : S), ageTurns s (a ++ b) = ageTurns s a ++ ageTurns (goAll s a.flatten) b
  | [], b, s => rfl
  | t :: r, b, s => by
    show ageAll s t :: ageTurns (goAll s t) (r ++ b) = ageAll s t :: (ageTurns (goAll s t) r ++ ageTurns (goAll s (t ++ r.flatten)) b)
    rw [ageTurns_app r b, goAll_app]
theorem ageTurns_len : ∀ (a : List (List Tok)) (s : S), (ageTurns s a).length = a.length
  | [], s => rfl
  | t :: r, s => by simp [ageTurns, ageTurns_len r]
theorem cutAll_len (ts : List Tok) : (cutAll ts).length ≤ ts.length := (fold_few ts).1
theorem LT.beside {K : PySem.W.Frag} {H : Hp} {D r : Addr} {xs ys : List V} {ts : List Tok} (h : LT K H r ts) (hD : H D = some (.lst xs)) (n : r ≠ D) : LT K (upd H D (.lst ys)) r ts := by
  obtain ⟨zs, h1, h2⟩ := h
  exact ⟨zs, by rw [upd_ne n]; exact h1, h2.imp fun a b _ => TokAt.stay fun c zs hz => updT hD hz⟩
theorem TurnsAt.beside {K : PySem.W.Frag} {H : Hp} {D p : Addr} {rs : List Addr} {xs ys : List V} {ts : List (List Tok)} (h : TurnsAt K H p rs ts) (hD : H D = some (.lst xs)) (n : p ≠ D) (n2 : ∀ r ∈ rs, r ≠ D) : TurnsAt K (upd H D (.lst ys)) p rs ts :=
  ⟨by rw [upd_ne n]; exact h.1, h.2.imp fun x y hx q => LT.beside q hD (n2 x hx)⟩
theorem All2.tracked {K : PySem.W.Frag} {H : Hp} {rs : List Addr} {ts : List (List Tok)} (h : All2 (LT K H) rs ts) {r : Addr} (hr : r ∈ rs) : ∃ xs, H r = some (.lst xs) := by
  obtain ⟨i, hi, e⟩ := List.mem_iff_getElem.mp hr
  obtain ⟨y, _, xs, q, _⟩ := h.get (i := i) (x := r) (by rw [List.getElem?_eq_getElem hi, e])
  exact ⟨xs, q⟩
abbrev cIA (K : PySem.W.Frag) : Addr := He.ga K "InvalidArgument"
inductive NotL (K : PySem.W.Frag) (H : Hp) : V → Prop where
  | non : NotL K H .non
  | int (i : Int) : NotL K H (.int i)
  | str (z : Str) : NotL K H (.str z)
  | tup {a : Addr} {xs : List V} (h : SqT K H a xs) : NotL K H (.ref a)
  | dic {a : Addr} {kvs : List (Key × V)} (h : H a = some (.dK kvs)) : NotL K H (.ref a)
theorem NotL.same {K : PySem.W.Frag} {H H' : Hp} {v : V} (e : Same H H') (h : NotL K H v) : NotL K H' v := by
  cases h with
  | non => exact .non
  | int i => exact .int i
  | str z => exact .str z
  | tup h => exact .tup (sameT e h)
  | dic h => exact .dic (e _ _ h)
theorem NotL.ty {K : PySem.W.Frag} {H : Hp} {v : V} (h : NotL K H v) : ∃ t, TyX K H v t ∧ PySem.W.kitOne K t (.type "list") = some false := by
  cases h with
  | non => exact ⟨_, .base .non, kit_ty (by decide +kernel)⟩
  | int i => exact ⟨_, .base (.int i), kit_ty (by decide +kernel)⟩
  | str z => exact ⟨_, .base (.str z), kit_ty (by decide +kernel)⟩
  | tup h => exact ⟨_, tyT h, kit_ty (by decide +kernel)⟩
  | dic h => exact ⟨_, .base (.dK h), kit_ty (by decide +kernel)⟩
def TurnV (K : PySem.W.Frag) (H : Hp) (v : V) : Option (List (Option Tok)) → Prop
  | some os => ∃ r xs, v = .ref r ∧ H r = some (.lst xs) ∧ All2 (TV K H) xs os
  | none => NotL K H v
def pTurn (s : S) : Option (List (Option Tok)) → Option (S × List Tok)
  | none => none
  | some os => if os.isEmpty then none else wToks true (bt s) [] os
def osLen : Option (List (Option Tok)) → Nat
  | none => 0
  | some os => os.length
theorem byNum_words {s : S} {t u : Tok} (h : byNum s t = some u) : u.words = t.words := by
  unfold byNum at h
  split at h
  · rename_i a en
    obtain ⟨n, _, e⟩ := Option.map_eq_some_iff.mp h
    subst e
    cases t <;> simp_all [Tok.num?, Tok.withN, Tok.words]
  · cases h
    rfl
theorem raise_none {K : PySem.W.Frag} {σ : L2.St} {H0 H1 : Hp} {E : XK} (S : Same H0 H1) (k : ∀ (d0 : Addr) (H' : Hp), Same H0 H' → H0 d0 = none → H' d0 = some (.xd [("part", .str "turns")]) → E (.ref (cIA K)) (some d0) H') :
    tMkE (cIA K) ["part"] (tCons (tC (.str "turns")) tNil) σ H1 fun cls d H' => E cls d H' :=
  ⟨rfl, fun d0 H' nd hd oth => k d0 H' (fun b o hb => by
    have := S b o hb
    rw [oth b (ne_of_none this nd)]
    exact this) (S.free nd) hd⟩
def TurnsV (K : PySem.W.Frag) (H : Hp) (v : V) : Option (List (Option (List (Option Tok)))) → Prop
  | some ts => ∃ p xs, v = .ref p ∧ H p = some (.lst xs) ∧ All2 (TurnV K H) xs ts
  | none => NotL K H v
def pNum : Option (List (Option (List (Option Tok)))) → Option (List Tok)
  | none => none
  | some ts => pBack ts
def tsLen : Option (List (Option (List (Option Tok)))) → Nat
  | none => 0
  | some ts => (ts.map osLen).sum
theorem wToks_acc : ∀ (os : List (Option Tok)) (f : Bool) (s : S) (a h : List Tok), wToks f s (a ++ h) os = (wToks f s h os).map fun p => (p.1, a ++ p.2)
  | [], f, s, a, h => rfl
  | none :: r, f, s, a, h => rfl
  | some t :: r, f, s, a, h => by
    simp only [wToks]
    split
    · rfl
    · split
      · rfl
      · split
        · rw [List.append_assoc]
          exact wToks_acc r _ _ _ _
        · rfl
theorem wToks_slen : ∀ {os : List (Option Tok)} {f : Bool} {s s' : S} {h h' : List Tok}, wToks f s h os = some (s', h') → s'.len = s.len + os.length
  | [], _, _, _, _, _, e => by
    simp only [wToks, Option.some.injEq, Prod.mk.injEq] at e
    rw [← e.1]; rfl
  | none :: _, _, _, _, _, _, e => by simp [wToks] at e
  | some t :: r, f, s, s', h, h', e => by
    simp only [wToks] at e
    split at e
    · cases e
    · split at e
      · cases e
      · split at e
        · have := wToks_slen e
          rw [go_len] at this
          simp only [List.length_cons]
          omega
        · cases e
theorem pTurn_slen {s s' : S} {o : Option (List (Option Tok))} {us : List Tok} (h : pTurn s o = some (s', us)) : s'.len = s.len + osLen o := by
  cases o with
  | none => cases h
  | some os =>
    unfold pTurn at h
    simp only at h
    split at h
    · cases h
    · have := wToks_slen h
      exact this
theorem walk_cons (s : S) (h : List Tok) (o : Option (List (Option Tok))) (r : List (Option (List (Option Tok)))) :
    wWalk true s h (o :: r) = match pTurn s o with | none => none | some (s', us) => wWalk true s' (h ++ us) r := by
  cases o with
  | none => rfl
  | some os =>
    simp only [wWalk, pTurn, Bool.true_and]
    cases e : os.isEmpty with
    | true => simp
    | false =>
      simp only [Bool.false_eq_true, if_false]
      have := wToks_acc os true (bt s) h []
      rw [List.append_nil] at this
      rw [this]
      cases wToks true (bt s) [] os with
      | none => rfl
      | some p => rfl
theorem sum_take {l : List Nat} {i x : Nat} (h : l[i]? = some x) : (l.take i).sum + x ≤ l.sum := by
  have hl : i < l.length := (List.getElem?_eq_some_iff.mp h).1
  have e := List.take_append_drop i l
  have e2 : l.drop i = x :: l.drop (i + 1) := by
    rw [List.drop_eq_getElem_cons hl]
    congr 1
    exact (List.getElem?_eq_some_iff.mp h).2
  have e3 : ((l.take i) ++ l.drop i).sum = l.sum := by rw [e]
  rw [e2, List.sum_append, List.sum_cons] at e3
  omega
end K13

set_option Elab.async false
set_option maxRecDepth 100000
set_option maxHeartbeats 4000000
set_option linter.all false
/-! going over a history, and numbering it anew: the mathematics -/
namespace K13
open PySem PySem.Spec PyProof.Rows L2
/-- the place of the first token that may not stand there -/
def gone (s : S) (i : Nat) : List (Option Tok) → Option Nat
  | [] => none
  | none :: _ => some i
  | some t :: r => if may s t then gone (go s t) (i + 1) r else some i
def fv : Option Nat → V
  | none => .non
  | some i => .int (i : Nat)
theorem gone_some : ∀ (ts : List Tok) (s : S) (i : Nat), (gone s i (ts.map some) = none) ↔ valid s ts = true
  | [], s, i => by simp [gone, valid]
  | t :: r, s, i => by
    simp only [List.map_cons, gone, valid]
    cases h : may s t with
    | true => simpa using gone_some r (go s t) (i + 1)
    | false => simp
/-- the things with an age, those that were named in the turn, and how many were started -/
structure R where
  ths : List Nat
  lost : List Nat
  st : Nat
def r0 : R := ⟨[], [], 0⟩
def rNew (r : R) (t : Tok) : R := if t.outer then ⟨r.ths.filter (fun n => !r.lost.contains n), [], r.st⟩ else r
def rAdd (r : R) (t : Tok) : R := match t.start? with
  | some _ => ⟨r.ths ++ [r.st], r.lost, r.st + 1⟩
  | none => r
def putL (l : List Nat) (n : Nat) : List Nat := if l.contains n then l else l ++ [n]
def rEnd (r : R) (n : Nat) : R := { r with lost := putL r.lost n }
def rOne (b : Bool) (r : R) (t : Tok) : Option (R × Tok) := match t.num? with
  | none => some (rAdd (rNew r t) t, t)
  | some a => if b then some (rEnd (rAdd (rNew r t) t) a, t.withN ((rAdd (rNew r t) t).ths.idxOf a)) else
    match (rAdd (rNew r t) t).ths[a]? with
    | none => none
    | some n => some (rEnd (rAdd (rNew r t) t) n, t.withN n)
def rAll (b : Bool) (r : R) : List Tok → Option (List Tok)
  | [] => some []
  | t :: ts => match rOne b r t with
    | none => none
    | some (r', u) => (rAll b r' ts).map (u :: ·)
/-- what must hold so that nothing is raised -/
def rPre (b : Bool) (r : R) : List Tok → Prop
  | [] => True
  | t :: ts => (t.outer = true → r.lost.length < 64) ∧ (b = true → ∀ n, t.num? = some n → n ∈ (rAdd (rNew r t) t).ths) ∧ ∀ r' u, rOne b r t = some (r', u) → rPre b r' ts
structure RI (r : R) : Prop where
  srt : r.ths.Pairwise (· < ·)
  few : ∀ n ∈ r.ths, n < r.st
  nd : r.lost.Nodup
  sub : ∀ n ∈ r.lost, n ∈ r.ths
theorem ri0 : RI r0 := ⟨by simp [r0], by simp [r0], by simp [r0], by simp [r0]⟩
theorem RI.new {r : R} (h : RI r) (t : Tok) : RI (rNew r t) := by
  unfold rNew
  split
  · exact ⟨h.srt.sublist List.filter_sublist, fun n hn => h.few n (List.mem_filter.mp hn).1, List.nodup_nil, by simp⟩
  · exact h
theorem RI.add {r : R} (h : RI r) (t : Tok) : RI (rAdd r t) := by
  unfold rAdd
  split
  · refine ⟨List.pairwise_append.mpr ⟨h.srt, by simp, fun a ha b hb => ?_⟩, fun n hn => ?_, h.nd, fun n hn => List.mem_append_left _ (h.sub n hn)⟩
    · rw [List.mem_singleton.mp hb]; exact h.few a ha
    · show n < r.st + 1
      rcases List.mem_append.mp hn with q | q
      · have := h.few n q; omega
      · rw [List.mem_singleton.mp q]; omega
  · exact h
theorem mem_putL {l : List Nat} {n m : Nat} : m ∈ putL l n ↔ m ∈ l ∨ m = n := by
  unfold putL
  split
  · rename_i c
    have : n ∈ l := by simpa using c
    constructor
    · exact .inl
    · rintro (q | q)
      · exact q
      · rw [q]; exact this
  · simp
theorem putL_nd {l : List Nat} {n : Nat} (h : l.Nodup) : (putL l n).Nodup := by
  unfold putL
  split
  · exact h
  · rename_i c
    have : n ∉ l := by simpa using c
    exact List.nodup_append.mpr ⟨h, by simp, fun x hx y hy z => by
      rw [List.mem_singleton.mp hy] at z
      exact this (z ▸ hx)⟩
theorem RI.end' {r : R} (h : RI r) {n : Nat} (hn : n ∈ r.ths) : RI (rEnd r n) :=
  ⟨h.srt, h.few, putL_nd h.nd, fun m hm => by
    rcases mem_putL.mp hm with q | q
    · exact h.sub m q
    · rw [q]; exact hn⟩
theorem rOne_ri {b : Bool} {r r' : R} {t u : Tok} (h : RI r) (hp : b = true → ∀ n, t.num? = some n → n ∈ (rAdd (rNew r t) t).ths) (e : rOne b r t = some (r', u)) : RI r' := by
  unfold rOne at e
  have h2 := (h.new t).add t
  split at e
  · cases e; exact h2
  · rename_i a en
    split at e
    · rename_i hb
      cases e
      exact h2.end' (hp hb a en)
    · split at e
      · cases e
      · rename_i n hn
        cases e
        exact h2.end' (List.mem_of_getElem? hn)
theorem rOne_st {b : Bool} {r r' : R} {t u : Tok} (e : rOne b r t = some (r', u)) : r'.st ≤ r.st + 1 := by
  have h1 : (rNew r t).st = r.st := by unfold rNew; split <;> rfl
  have h2 : (rAdd (rNew r t) t).st ≤ r.st + 1 := by
    unfold rAdd
    split
    · show (rNew r t).st + 1 ≤ _; omega
    · omega
  unfold rOne at e
  split at e
  · cases e; exact h2
  · split at e
    · cases e; exact h2
    · split at e
      · cases e
      · cases e; exact h2
theorem rAll_len {b : Bool} : ∀ {ts us : List Tok} {r : R}, rAll b r ts = some us → us.length = ts.length
  | [], us, r, e => by simp [rAll] at e; simp [e]
  | t :: ts, us, r, e => by
    simp only [rAll] at e
    split at e
    · cases e
    · obtain ⟨vs, h1, h2⟩ := Option.map_eq_some_iff.mp e
      rw [← h2]
      simp [rAll_len h1]
/-! ### a state of both ways -/
structure Co (s : S) (r : R) : Prop where
  gd : Good s
  ths : r.ths = s.ths
  st : r.st = s.kinds.length
  nd : r.lost.Nodup
  lost : ∀ n ∈ s.ths, n ∈ r.lost ↔ n ∉ s.run
  sub : ∀ n ∈ r.lost, n ∈ s.ths
theorem co0 : Co s0 r0 := ⟨good0, rfl, rfl, by simp [r0], by simp [s0], by simp [r0]⟩
theorem Co.ri {s : S} {r : R} (c : Co s r) : RI r := ⟨by rw [c.ths]; exact c.gd.srt, by rw [c.ths, c.st]; exact c.gd.few, c.nd, by rw [c.ths]; exact c.sub⟩
theorem srt_ext : ∀ {l m : List Nat}, l.Pairwise (· < ·) → m.Pairwise (· < ·) → (∀ x, x ∈ l ↔ x ∈ m) → l = m
  | [], [], _, _, _ => rfl
  | [], b :: m, _, _, h => by have := (h b).mpr List.mem_cons_self; cases this
  | a :: l, [], _, _, h => by have := (h a).mp List.mem_cons_self; cases this
  | a :: l, b :: m, h1, h2, h => by
    rw [List.pairwise_cons] at h1 h2
    have e : a = b := by
      have q1 := (h a).mp List.mem_cons_self
      have q2 := (h b).mpr List.mem_cons_self
      rcases List.mem_cons.mp q1 with q1 | q1
      · exact q1
      · rcases List.mem_cons.mp q2 with q2 | q2
        · exact q2.symm
        · have := h1.1 b q2
          have := h2.1 a q1
          omega
    subst e
    congr 1
    refine srt_ext h1.2 h2.2 fun x => ?_
    constructor
    · intro q
      rcases List.mem_cons.mp ((h x).mp (List.mem_cons_of_mem _ q)) with z | z
      · have := h1.1 x q; omega
      · exact z
    · intro q
      rcases List.mem_cons.mp ((h x).mpr (List.mem_cons_of_mem _ q)) with z | z
      · have := h2.1 x q; omega
      · exact z
theorem Co.new {s : S} {r : R} (c : Co s r) (t : Tok) : Co (st1 s t) (rNew r t) := by
  unfold st1 rNew
  cases o : t.outer with
  | false => exact c
  | true =>
    refine ⟨c.gd.bt, ?_, c.st, List.nodup_nil, fun n hn => ?_, by simp⟩
    · refine srt_ext (l := r.ths.filter (fun n => !r.lost.contains n)) (m := s.run) (c.ri.srt.sublist List.filter_sublist) c.gd.srr fun x => ?_
      show x ∈ r.ths.filter (fun n => !r.lost.contains n) ↔ x ∈ s.run
      rw [List.mem_filter, c.ths]
      constructor
      · rintro ⟨h1, h2⟩
        have h3 : x ∉ r.lost := by simpa using h2
        exact Classical.byContradiction fun z => h3 ((c.lost x h1).mpr z)
      · intro h
        have h1 := c.gd.sub x h
        refine ⟨h1, ?_⟩
        have : x ∉ r.lost := fun z => (c.lost x h1).mp z h
        simpa using this
    · have hn' : n ∈ s.run := hn
      exact ⟨fun z => by simp at z, fun z => absurd hn' z⟩
theorem Co.start {s : S} {r : R} {t : Tok} {k : Bool} (c : Co s r) (es : t.start? = some k) (et : ths0 s t = s.ths) : Co (go s t) (rAdd r t) := by
  have g := c.gd.go t
  have e1 : go s t = ⟨s.run ++ [s.kinds.length], s.kinds ++ [k], ths0 s t ++ [s.kinds.length], s.len + 1, t.last⟩ := by unfold go; rw [es]
  have e2 : rAdd r t = ⟨r.ths ++ [r.st], r.lost, r.st + 1⟩ := by unfold rAdd; rw [es]
  rw [e2]
  rw [e1, et] at g ⊢
  refine ⟨g, by rw [c.ths, c.st], by simp [c.st], c.nd, fun n hn => ?_, fun n hn => List.mem_append_left _ (c.sub n hn)⟩
  rcases List.mem_append.mp hn with q | q
  · have hl := c.gd.few n q
    rw [c.lost n q]
    constructor
    · intro z w
      rcases List.mem_append.mp w with w | w
      · exact z w
      · rw [List.mem_singleton.mp w] at hl; omega
    · exact fun z w => z (List.mem_append_left _ w)
  · have e := List.mem_singleton.mp q
    subst e
    constructor
    · intro z
      have := c.gd.few _ (c.sub _ z)
      omega
    · intro z
      exact absurd (List.mem_append_right _ (by simp)) z
theorem Co.drop {s : S} {r : R} {t : Tok} {n : Nat} (c : Co s r) (en : t.num? = some n) (et : ths0 s t = s.ths) (hn : n ∈ s.run) : Co (go s t) (rEnd r n) := by
  have es : t.start? = none := by cases t <;> simp_all [Tok.num?, Tok.start?]
  have g := c.gd.go t
  have e1 : go s t = ⟨s.run.erase n, s.kinds, ths0 s t, s.len + 1, t.last⟩ := by unfold go; rw [es, en]
  rw [e1, et] at g ⊢
  refine ⟨g, c.ths, c.st, putL_nd c.nd, fun m hm => ?_, fun m hm => ?_⟩
  · have nd := srt_nodup c.gd.srr
    show m ∈ putL r.lost n ↔ m ∉ s.run.erase n
    rw [mem_putL, nd.mem_erase_iff, c.lost m hm]
    by_cases z : m = n
    · simp [z]
    · simp [z]
  · rcases mem_putL.mp hm with q | q
    · exact c.sub m q
    · rw [q]; exact c.gd.sub n hn
theorem Co.other {s : S} {r : R} {t : Tok} (c : Co s r) (es : t.start? = none) (en : t.num? = none) (et : ths0 s t = s.ths) : Co (go s t) r := by
  have g := c.gd.go t
  have e1 : go s t = ⟨s.run, s.kinds, ths0 s t, s.len + 1, t.last⟩ := by unfold go; rw [es, en]
  rw [e1, et] at g ⊢
  exact ⟨g, c.ths, c.st, c.nd, c.lost, c.sub⟩
theorem rAdd_num {r : R} {t : Tok} {n : Nat} (en : t.num? = some n) : rAdd r t = r := by
  have es : t.start? = none := by cases t <;> simp_all [Tok.num?, Tok.start?]
  unfold rAdd; rw [es]
/-- a token that may stand: both go on together -/
theorem Co.step {s : S} {r : R} {t : Tok} (c : Co s r) (k : kindOk s t = true) : ∃ r', rOne true r t = some (r', age s t) ∧ Co (go s t) r' ∧ (∀ n, t.num? = some n → n ∈ (rAdd (rNew r t) t).ths) := by
  have c1 := c.new t
  obtain ⟨eg, et⟩ := st1_go s t
  have ek := (st1_kind s t).1
  have ea : age s t = age (st1 s t) t := by
    unfold age ths0 st1
    cases o : t.outer <;> simp [o, bt]
  rw [← ek] at k
  rw [← eg, ea]
  generalize st1 s t = s1 at *
  unfold rOne
  cases en : t.num? with
  | some n =>
    have hn := kind_run en k
    have e := rAdd_num (r := rNew r t) en
    refine ⟨rEnd (rNew r t) n, ?_, c1.drop en et hn, fun m hm => ?_⟩
    · simp only [e, if_true]
      unfold age
      rw [en]
      simp only [c1.ths, et]
    · cases hm
      rw [e, c1.ths]
      exact c1.gd.sub n hn
  | none =>
    refine ⟨rAdd (rNew r t) t, ?_, ?_, fun m hm => by cases hm⟩
    · unfold age
      rw [en]
    · cases es : t.start? with
      | some kk => exact c1.start es et
      | none =>
        have : rAdd (rNew r t) t = rNew r t := by unfold rAdd; rw [es]
        rw [this]
        exact c1.other es en et
theorem lost_few {b : Bool} {r r' : R} {t u : Tok} (e : rOne b r t = some (r', u)) : r'.lost.length ≤ (if t.outer then 0 else r.lost.length) + 1 := by
  have h1 : (rNew r t).lost.length ≤ (if t.outer then 0 else r.lost.length) := by
    unfold rNew; split <;> simp
  have h2 : (rAdd (rNew r t) t).lost = (rNew r t).lost := by
    unfold rAdd; split <;> rfl
  have h3 : ∀ (q : R) n, (rEnd q n).lost.length ≤ q.lost.length + 1 := fun q n => by
    show (putL q.lost n).length ≤ _
    unfold putL
    split
    · omega
    · simp
  unfold rOne at e
  split at e
  · cases e; rw [h2]; omega
  · split at e
    · cases e; have := h3 (rAdd (rNew r t) t) ‹_›; rw [h2] at this; omega
    · split at e
      · cases e
      · cases e; have := h3 (rAdd (rNew r t) t) ‹_›; rw [h2] at this; omega
theorem pre_true : ∀ {ts : List Tok} {s : S} {r : R}, Co s r → valid s ts = true → r.lost.length + ts.length ≤ 63 → rPre true r ts
  | [], _, _, _, _, _ => trivial
  | t :: ts, s, r, c, v, l => by
    simp only [valid, Bool.and_eq_true] at v
    obtain ⟨r', h1, h2, h3⟩   := c.step (may_kind v.1).1
    simp only [List.length_cons] at l
    refine ⟨fun _ => by omega, fun _ => h3, fun r2 u e => ?_⟩
    have e' := h1.symm.trans e
    cases e'
    have := lost_few h1
    refine pre_true h2 v.2 ?_
    split at this <;> omega
theorem all_true : ∀ {ts : List Tok} {s : S} {r : R}, Co s r → valid s ts = true → rAll true r ts = some (ageAll s ts)
  | [], _, _, _, _ => rfl
  | t :: ts, s, r, c, v => by
    simp only [valid, Bool.and_eq_true] at v
    obtain ⟨r', h1, h2, _⟩   := c.step (may_kind v.1).1
    simp only [rAll, h1, all_true h2 v.2, Option.map_some, ageAll]
/-! ### by number -/
/-- token by token, each one asked for -/
def fWalk (s : S) : List Tok → Option (List Tok)
  | [] => some []
  | t :: ts => match byNum (st1 s t) t with
    | none => none
    | some u => if may s u then (fWalk (go s u) ts).map (u :: ·) else none
theorem byNum_out {s : S} {t u : Tok} (h : byNum s t = some u) : u.outer = t.outer ∧ u.start? = t.start? ∧ (t.num? = none → u = t) ∧ ∀ a, t.num? = some a → ∃ n, s.ths[a]? = some n ∧ u = t.withN n := by
  unfold byNum at h
  split at h
  · rename_i a en
    obtain ⟨n, h1, h2⟩ := Option.map_eq_some_iff.mp h
    subst h2
    refine ⟨(withN_num en n).2.2, ?_, fun z => (by rw [en] at z; cases z), fun b hb => ?_⟩
    · cases t <;> simp_all [Tok.num?, Tok.withN, Tok.start?]
    · rw [en] at hb
      cases hb
      exact ⟨n, h1, rfl⟩
  · rename_i en
    cases h
    exact ⟨rfl, rfl, fun _ => rfl, fun a ha => by rw [en] at ha; cases ha⟩
theorem rOne_false {s : S} {r : R} {t : Tok} (c : Co s r) : (rOne false r t).map Prod.snd = byNum (st1 s t) t := by
  have c1 := c.new t
  unfold rOne byNum
  cases en : t.num? with
  | none => rfl
  | some a =>
    simp only [Bool.false_eq_true, if_false, rAdd_num en, c1.ths]
    cases (st1 s t).ths[a]? <;> rfl
theorem Co.back {s : S} {r r' : R} {t u : Tok} (c : Co s r) (h : rOne false r t = some (r', u)) (m : may s u = true) : Co (go s u) r' := by
  have hb : byNum (st1 s t) t = some u := by rw [← rOne_false c, h]; rfl
  obtain ⟨h1, h2, h3, h4⟩ := byNum_out hb
  have c1 := c.new t
  have e1 : st1 s t = st1 s u := by unfold st1; rw [h1]
  obtain ⟨eg, et⟩ := st1_go s u
  have k := (may_kind m).1
  rw [← (st1_kind s u).1] at k
  rw [← eg]
  rw [e1] at c1 h4
  generalize st1 s u = s1 at *
  unfold rOne at h
  cases en : t.num? with
  | some a =>
    simp only [en, Bool.false_eq_true, if_false, rAdd_num en, c1.ths] at h
    obtain ⟨n, hn, hu⟩ := h4 a en
    simp only [hn, Option.some.injEq, Prod.mk.injEq] at h
    obtain ⟨e2, e3⟩ := h
    subst e2
    have un : u.num? = some n := by rw [hu]; exact (withN_num en n).1
    exact c1.drop un et (kind_run un k)
  | none =>
    simp only [en, Option.some.injEq, Prod.mk.injEq] at h
    obtain ⟨e2, e3⟩ := h
    subst e2 e3
    cases es : t.start? with
    | some kk => exact c1.start es et
    | none =>
      have : rAdd (rNew r t) t = rNew r t := by unfold rAdd; rw [es]
      rw [this]
      exact c1.other es en et
def chk (s : S) : Option (List Tok) → Option (List Tok)
  | some us => if valid s us then some us else none
  | none => none
theorem all_false : ∀ {ts : List Tok} {s : S} {r : R}, Co s r → chk s (rAll false r ts) = fWalk s ts
  | [], _, _, _ => rfl
  | t :: ts, s, r, c => by
    have hb := rOne_false (t := t) c
    simp only [rAll, fWalk]
    cases h : rOne false r t with
    | none =>
      rw [h] at hb
      simp only [← hb, Option.map_none, chk]
    | some p =>
      obtain ⟨r', u⟩ := p
      rw [h] at hb
      simp only [← hb, Option.map_some]
      cases m : may s u with
      | true =>
        have ih := all_false (ts := ts) (c.back h m)
        simp only [if_true]
        rw [← ih]
        cases q : rAll false r' ts with
        | none => rfl
        | some us =>
          simp only [Option.map_some, chk, valid, m, Bool.true_and]
          split <;> rfl
      | false =>
        cases q : rAll false r' ts with
        | none => rfl
        | some us =>
          simp only [Option.map_some, chk, valid, m, Bool.false_and, Bool.false_eq_true, if_false]
/-- turns as their forms tell -/
def likeT : List Tok → Bool
  | [] => false
  | t :: r => t.outer && r.all fun u => !u.outer
def likeO : Option (List (Option Tok)) → Bool
  | none => false
  | some os => os.all Option.isSome && likeT (os.filterMap id)
theorem walk_flat_in : ∀ (r : List Tok) (s : S) (h : List Tok), (r.all fun u => !u.outer) = true → (∀ ts, (wToks false s h (r.map some)).bind (fun p => (fWalk p.1 ts).map (p.2 ++ ·)) = (fWalk s (r ++ ts)).map (h ++ ·))
  | [], s, h, _, ts => by simp [wToks]
  | t :: r, s, h, o, ts => by
    simp only [List.all_cons, Bool.and_eq_true, Bool.not_eq_true'] at o
    have e1 : st1 s t = s := by unfold st1; rw [o.1]; rfl
    simp only [List.map_cons, wToks, o.1, bne_self_eq_false, Bool.false_eq_true, if_false, List.cons_append, fWalk, e1]
    cases hb : byNum s t with
    | none => rfl
    | some u =>
      simp only
      cases m : may s u with
      | false => rfl
      | true =>
        simp only [if_true]
        rw [walk_flat_in r (go s u) (h ++ [u]) o.2 ts, Option.map_map]
        congr 1
        funext l
        simp
theorem walk_flat : ∀ (tss : List (List Tok)) (s : S) (h : List Tok), (∀ ts ∈ tss, likeT ts = true) → wWalk true s h (lift tss) = (fWalk s tss.flatten).map (h ++ ·)
  | [], s, h, _ => by simp [lift, wWalk, fWalk]
  | [] :: r, s, h, hh => by have := hh [] List.mem_cons_self; cases this
  | (t :: q) :: r, s, h, hh => by
    have hl := hh (t :: q) List.mem_cons_self
    simp only [likeT, Bool.and_eq_true] at hl
    have ih := fun s h => walk_flat r s h fun ts hm => hh ts (List.mem_cons_of_mem _ hm)
    have e1 : st1 s t = bt s := by unfold st1; rw [hl.1]; rfl
    have e2 : lift ((t :: q) :: r) = some (some t :: q.map some) :: lift r := rfl
    rw [e2]
    simp only [wWalk, List.isEmpty_cons, Bool.and_false, Bool.false_eq_true, if_false, wToks, hl.1, bne_self_eq_false, List.flatten_cons, List.cons_append, fWalk, e1]
    cases hb : byNum (bt s) t with
    | none => rfl
    | some u =>
      simp only [may_bt]
      cases m : may s u with
      | false => rfl
      | true =>
        have ou : u.outer = true := by rw [(byNum_out hb).1]; exact hl.1
        simp only [if_true, go_bt ou]
        have k := walk_flat_in q (go s u) (h ++ [u]) hl.2 r.flatten
        cases w : wToks false (go s u) (h ++ [u]) (q.map some) with
        | none =>
          rw [w] at k
          simp only [Option.bind_none] at k
          rw [Option.map_map]
          have k' : fWalk (go s u) (q ++ r.flatten) = none := by
            cases z : fWalk (go s u) (q ++ r.flatten) with
            | none => rfl
            | some l => rw [z] at k; cases k
          rw [k']
          rfl
        | some p =>
          obtain ⟨s2, h2⟩ := p
          rw [w] at k
          simp only [Option.bind_some] at k
          simp only
          rw [ih, k, Option.map_map]
          congr 1
          funext l
          simp
theorem not_likeT {s : S} {h : List Tok} {ts : List Tok} (ne : likeT ts = false) : ts.isEmpty = true ∨ wToks true s h (ts.map some) = none := by
  cases ts with
  | nil => exact .inl rfl
  | cons t q =>
    right
    have in' : ∀ (q : List Tok) (s : S) (h : List Tok), (q.all fun u => !u.outer) = false → wToks false s h (q.map some) = none := by
      intro q
      induction q with
      | nil => intro s h c; cases c
      | cons t q ih =>
        intro s h c
        simp only [List.map_cons, wToks]
        cases o : t.outer with
        | true => rfl
        | false =>
          have c' : (q.all fun u => !u.outer) = false := by simpa [o] using c
          simp only [bne_self_eq_false, Bool.false_eq_true, if_false]
          split
          · rfl
          · split
            · exact ih _ _ c'
            · rfl
    simp only [List.map_cons, wToks]
    cases o : t.outer with
    | false => rfl
    | true =>
      have c' : (q.all fun u => !u.outer) = false := by simpa [likeT, o] using ne
      simp only [bne_self_eq_false, Bool.false_eq_true, if_false]
      split
      · rfl
      · split
        · exact in' _ _ _ c'
        · rfl
theorem wToks_bad : ∀ {os : List (Option Tok)} {f : Bool} {s : S} {h : List Tok}, os.all Option.isSome = false → wToks f s h os = none
  | [], _, _, _, c => by cases c
  | none :: r, _, _, _, _ => rfl
  | some t :: r, f, s, h, c => by
    have c' : r.all Option.isSome = false := by simpa using c
    simp only [wToks]
    split
    · rfl
    · split
      · rfl
      · split
        · exact wToks_bad c'
        · rfl
theorem all_some : ∀ {os : List (Option Tok)}, os.all Option.isSome = true → (os.filterMap id).map some = os
  | [], _ => rfl
  | none :: r, c => by simp at c
  | some t :: r, c => by
    have c' : r.all Option.isSome = true := by simpa using c
    simp [all_some c']
theorem walk_bad : ∀ (ts : List (Option (List (Option Tok)))) (s : S) (h : List Tok), ts.all likeO = false → wWalk true s h ts = none
  | [], _, _, c => by cases c
  | none :: r, _, _, _ => rfl
  | some os :: r, s, h, c => by
    simp only [wWalk]
    cases em : os.isEmpty with
    | true => rfl
    | false =>
      simp only [Bool.true_and, Bool.false_eq_true, if_false]
      cases lo : likeO (some os) with
      | true =>
        have c' : r.all likeO = false := by simpa [lo] using c
        split
        · rfl
        · exact walk_bad r _ _ c'
      | false =>
        have : wToks true (bt s) h os = none := by
          cases al : os.all Option.isSome with
          | false => exact wToks_bad al
          | true =>
            have lt : likeT (os.filterMap id) = false := by simpa [likeO, al] using lo
            have e := all_some al
            rcases not_likeT (s := bt s) (h := h) lt with z | z
            · have : os = [] := by
                rw [← e]
                simpa using z
              rw [this] at em
              cases em
            · rw [e] at z
              exact z
        rw [this]
/-- the tokens of all turns, if all are turns by their forms -/
def flatT (ts : List (Option (List (Option Tok)))) : List Tok := (ts.map fun o => (o.getD []).filterMap id).flatten
theorem like_lift : ∀ {ts : List (Option (List (Option Tok)))}, ts.all likeO = true → lift (ts.map fun o => (o.getD []).filterMap id) = ts ∧ ∀ l ∈ ts.map (fun o => (o.getD []).filterMap id), likeT l = true
  | [], _ => ⟨rfl, by simp⟩
  | none :: r, c => by simp [likeO] at c
  | some os :: r, c => by
    have c1 : likeO (some os) = true := by
      simp only [List.all_cons, Bool.and_eq_true] at c
      exact c.1
    have c2 : r.all likeO = true := by
      simp only [List.all_cons, Bool.and_eq_true] at c
      exact c.2
    obtain ⟨h1, h2⟩ := like_lift c2
    have c3 : os.all Option.isSome = true ∧ likeT (os.filterMap id) = true := by
      simpa only [likeO, Bool.and_eq_true] using c1
    refine ⟨?_, fun l hl => ?_⟩
    · have e := all_some c3.1
      simp only [lift, List.map_cons, List.map_map] at h1 ⊢
      rw [h1]
      congr 1
      exact congrArg some e
    · rw [List.map_cons] at hl
      rcases List.mem_cons.mp hl with q | q
      · rw [q]; exact c3.2
      · exact h2 l q
/-- what numbered answers -/
theorem numbered_eq {ts : List (Option (List (Option Tok)))} : pBack ts = if ts.all likeO then (match chk s0 (rAll false r0 (flatT ts)) with | some us => if us.isEmpty then none else some us | none => none) else none := by
  unfold pBack
  cases c : ts.all likeO with
  | false =>
    rw [walk_bad ts _ _ c]
    simp
  | true =>
    obtain ⟨h1, h2⟩ := like_lift c
    simp only [if_true]
    rw [all_false co0]
    have := walk_flat _ s0 [] h2
    rw [h1] at this
    rw [this]
    show _ = match fWalk s0 (flatT ts) with | some us => if us.isEmpty then none else some us | none => none
    have e : (fWalk s0 ((ts.map fun o => (o.getD []).filterMap id).flatten)) = fWalk s0 (flatT ts) := rfl
    rw [e]
    have fl : ∀ {us}, fWalk s0 (flatT ts) = some us → us.length = (flatT ts).length := by
      have key : ∀ (l us : List Tok) (s : S), fWalk s l = some us → us.length = l.length := by
        intro l
        induction l with
        | nil => intro us s e; simp [fWalk] at e; simp [e]
        | cons t l ih =>
          intro us s e
          simp only [fWalk] at e
          split at e
          · cases e
          · split at e
            · obtain ⟨vs, q1, q2⟩ := Option.map_eq_some_iff.mp e
              rw [← q2]
              simp [ih _ _ q1]
            · cases e
      intro us e
      exact key _ _ _ e
    cases ts with
    | nil => rfl
    | cons a r =>
      simp only [List.isEmpty_cons, Bool.false_eq_true, if_false]
      cases w : fWalk s0 (flatT (a :: r)) with
      | none => rfl
      | some us =>
        have l := fl w
        have la : likeT ((a.getD []).filterMap id) = true := h2 _ (by simp)
        have : us.isEmpty = false := by
          cases us with
          | cons _ _ => rfl
          | nil =>
            cases q : (a.getD []).filterMap id with
            | nil => rw [q] at la; cases la
            | cons _ _ => simp [flatT, q] at l
        simp [this]
/-- in each turn at most so many tokens -/
theorem pre_turn : ∀ (q : List Tok) (ts : List Tok) (r : R), (q.all fun u => !u.outer) = true → (∀ r' : R, r'.lost.length ≤ r.lost.length + q.length → rPre false r' ts) → rPre false r (q ++ ts)
  | [], ts, r, _, h => h r (by simp)
  | t :: q, ts, r, o, h => by
    simp only [List.all_cons, Bool.and_eq_true, Bool.not_eq_true'] at o
    refine ⟨fun z => (by rw [o.1] at z; cases z), (fun z => nomatch z), fun r' u e => ?_⟩
    have := lost_few e
    rw [o.1] at this
    simp only [Bool.false_eq_true, if_false] at this
    refine pre_turn q ts r' o.2 fun r2 hr2 => h r2 ?_
    simp only [List.length_cons]
    omega
theorem pre_turns : ∀ (tss : List (List Tok)) (r : R), (∀ ts ∈ tss, likeT ts = true ∧ ts.length ≤ 63) → r.lost.length ≤ 63 → rPre false r tss.flatten
  | [], r, _, _ => trivial
  | [] :: l, r, h, _ => by have := (h [] List.mem_cons_self).1; cases this
  | (t :: q) :: l, r, h, hr => by
    obtain ⟨h1, h2⟩ := h (t :: q) List.mem_cons_self
    simp only [likeT, Bool.and_eq_true] at h1
    simp only [List.length_cons] at h2
    simp only [List.flatten_cons, List.cons_append]
    refine ⟨fun _ => by omega, (fun z => nomatch z), fun r' u e => ?_⟩
    have := lost_few e
    rw [h1.1] at this
    simp only [if_true] at this
    exact pre_turn q _ r' h1.2 fun r2 hr2 => pre_turns l r2 (fun ts hm => h ts (List.mem_cons_of_mem _ hm)) (by omega)
end K13

set_option Elab.async false
set_option maxRecDepth 100000
set_option maxHeartbeats 4000000
set_option linter.all false
namespace K13
open PySem PySem.Spec PyProof.Rows L2
/-- the dict of what is open -/
structure DiAt (H : Hp) (d : Addr) (s : S) : Prop where
  kv : ∃ kvs : List (Key × V), H d = some (.dK kvs) ∧ kvs.length ≤ s.len ∧ (kvs.map (·.1)).Nodup ∧ ∀ n : Int, valV kvs (.inl n) = kindAt s n
  gd : Good s
  few : s.kinds.length ≤ s.len
theorem DiAt.same {H H' : Hp} {d : Addr} {s : S} (e : Same H H') (h : DiAt H d s) : DiAt H' d s := by
  obtain ⟨⟨kvs, h2, h3⟩, h8, h9⟩ := h
  exact ⟨⟨kvs, e _ _ h2, h3⟩, h8, h9⟩
def spGone (K : PySem.W.Frag) : Sp := fun vs H Q _ => ∃ (h : Addr) (xs : List V) (os : List (Option Tok)), vs = [.ref h] ∧ SqL K H h xs ∧ All2 (TV K H) xs os ∧ os.length ≤ 450 ∧
  ∀ (H' : Hp) (p d : Addr), Same H H' → H p = none → H d = none → SqT K H' p [fv (gone s0 0 os), .ref d] → Q (.ref p) H'
theorem go_lf (s : S) (t : Tok) : (go s t).len = s.len + 1 ∧ (go s t).fin = t.last := by
  unfold go
  split
  · exact ⟨rfl, rfl⟩
  · split <;> exact ⟨rfl, rfl⟩
/-- a thing more -/
theorem DiAt.start {H : Hp} {d : Addr} {s : S} {t : Tok} {k : Bool} {kvs : List (Key × V)} (D : DiAt H d s) (h : H d = some (.dK kvs)) (es : t.start? = some k) :
    DiAt (upd H d (.dK (putK kvs (.inl (s.kinds.length : Int)) (V.str (kindS k))))) d (go s t) ∧ (go s t).kinds.length = s.kinds.length + 1 := by
  obtain ⟨⟨kvs', h2, h3, h4, h5⟩, gd, few⟩ := D
  rw [h] at h2
  cases h2
  have hn : valV kvs (.inl (s.kinds.length : Int)) = none := by rw [h5]; exact kind_none gd
  have ego : go s t = ⟨s.run ++ [s.kinds.length], s.kinds ++ [k], ths0 s t ++ [s.kinds.length], s.len + 1, t.last⟩ := by unfold go; rw [es]
  have g := gd.go t
  rw [ego] at g ⊢
  refine ⟨⟨⟨_, upd_same, ?_, nd_putK _ h4 hn, fun j => ?_⟩, g, ?_⟩, by simp⟩
  · rw [putK_new _ hn, List.length_append]
    show kvs.length + 1 ≤ s.len + 1
    omega
  · rw [valV_put, kind_start gd]
    by_cases hj : j = (s.kinds.length : Int)
    · rw [if_pos (by rw [hj]), if_pos hj]
    · rw [if_neg (fun z => hj (Sum.inl.inj z)), if_neg hj]
      exact h5 j
  · simp; omega
/-- a thing less -/
theorem DiAt.drop {H : Hp} {d : Addr} {s : S} {t : Tok} {n : Nat} {kvs : List (Key × V)} (D : DiAt H d s) (h : H d = some (.dK kvs)) (en : t.num? = some n) :
    DiAt (upd H d (.dK (dropK kvs (.inl (n : Int))))) d (go s t) ∧ (go s t).kinds.length = s.kinds.length := by
  obtain ⟨⟨kvs', h2, h3, h4, h5⟩, gd, few⟩ := D
  rw [h] at h2
  cases h2
  have es : t.start? = none := by cases t <;> simp_all [Tok.num?, Tok.start?]
  have ego : go s t = ⟨s.run.erase n, s.kinds, ths0 s t, s.len + 1, t.last⟩ := by unfold go; rw [es, en]
  have g := gd.go t
  rw [ego] at g ⊢
  refine ⟨⟨⟨_, upd_same, ?_, nd_dropK h4, fun j => ?_⟩, g, ?_⟩, rfl⟩
  · have := dropK_le kvs (Sum.inl (n : Int))
    show _ ≤ s.len + 1
    omega
  · rw [valV_dropK, kind_drop gd]
    by_cases hj : j = (n : Int)
    · rw [if_pos (by rw [hj]), if_pos hj]
    · rw [if_neg (fun z => hj (Sum.inl.inj z)), if_neg hj]
      exact h5 j
  · show s.kinds.length ≤ s.len + 1; omega
theorem DiAt.other {H : Hp} {d : Addr} {s : S} {t : Tok} (D : DiAt H d s) (es : t.start? = none) (en : t.num? = none) : DiAt H d (go s t) ∧ (go s t).kinds.length = s.kinds.length := by
  obtain ⟨⟨kvs, h2, h3, h4, h5⟩, gd, few⟩ := D
  have ego : go s t = ⟨s.run, s.kinds, ths0 s t, s.len + 1, t.last⟩ := by unfold go; rw [es, en]
  have g := gd.go t
  rw [ego] at g ⊢
  exact ⟨⟨⟨kvs, h2, by show kvs.length ≤ s.len + 1; omega, h4, h5⟩, g, by show s.kinds.length ≤ s.len + 1; omega⟩, rfl⟩
section
variable {P : Program} {w : World} {K : PySem.W.Frag} {mg : Str → Option Value} {base : Heap}
theorem ok_gone {f : Addr} {fd : FuncData} (F : FnP K "gone_over" "gone_over" s_gone_over f fd) (T : Tx w K mg) (G_has_form : Def P w K mg base CX0 3 "has_form" p_has_form (spHasForm K)) :
    FnOk P w K mg base CX0 4 f fd p_gone_over (spGone K) := by
  refine F.ok sc_gone_over (fun vs H Q E h => ?_) (fun cdv A outer s H vs Q E hr h => ?_)
  · obtain ⟨h, xs, os, rfl, _⟩ := h
    rfl
  · obtain ⟨h, xs, os, rfl, hl, hos, few, k⟩ := h
    have hu := hu_of hr
    have el := hos.len
    refine ⟨_, PSs.nox (pss_cons (ps_set (i := 1) sc_gone_over.nd rfl (.inl rfl) pe_dnewK)
      (pss_cons (ps_set (i := 2) sc_gone_over.nd rfl (.inl rfl) pe_int)
      (pss_cons (ps_set (i := 3) sc_gone_over.nd rfl (.inl rfl) pe_bl)
      (pss_cons (ps_for PassesOwn.never rfl (pi_enum (by rfl) T.b_enumerate (pa_cons (pv 0) pa_nil)) (pg_tup (by rfl) (pgs_cons (pg_name (i := 4) sc_gone_over.nd rfl (.inl rfl)) (pgs_cons (pg_name (i := 5) sc_gone_over.nd rfl (.inl rfl)) pgs_nil))) (pss_cons (ps_if (PW.pt (pw_or (pt_val (pv 3)) (pw_or (pt_not (pt_val (pe_fn G_has_form (hr.mono (by decide)) (by rfl) pass0 (pa_cons (pv 5) pa_nil)))) (pw_or1 (pt_cmpR op_ne (pe_cmpR op_eq (pe_ix ix_tup (pv 5) pe_int (fun _ _ => rfl)) pe_str (nomark _)) (pe_cmpR op_eq (pv 4) pe_int (nomark _)) (nomark _)))))) (pss_one (ps_ret (pe_tup (pa_cons (pv 4) (pa_cons (pv 1) pa_nil))))) pss_nil)
      (C8.pss_cut (ps_if (pt_cmpR (op_in_kd' T.D_STARTED) (pe_ix ix_tup (pv 5) pe_int (fun _ _ => rfl)) (pe_ref (by rfl) T.m_STARTED) (by rfl)) (pss_cons (ps_dput hu (pv 1) (pv 2) (pe_ix ix_kdict (pe_ref (by rfl) T.m_STARTED) (pe_ix ix_tup (pv 5) pe_int (fun _ _ => rfl)) (fun _ _ => rfl)) rfl)
      (pss_one (ps_aug (i := 2) sc_gone_over.nd rfl (.inl rfl) pe_int ip_add))) (pss_one (ps_if (pt_cmpR (op_in_kd' T.D_NAMED) (pe_ix ix_tup (pv 5) pe_int (fun _ _ => rfl)) (pe_ref (by rfl) T.m_NAMED) (by rfl)) (pss_cons (ps_if (pt_cmpR op_notIn_seq (pe_dget1 hu (pv 1) (pe_ix ix_tup (pv 5) pe_int (fun _ _ => rfl)) ⟨rfl, rfl, rfl, rfl⟩) (pe_ix ix_kdict (pe_ref (by rfl) T.m_NAMED) (pe_ix ix_tup (pv 5) pe_int (fun _ _ => rfl)) (fun _ _ => rfl)) (by rfl)) (pss_one (ps_ret (pe_tup (pa_cons (pv 4) (pa_cons (pv 1) pa_nil))))) pss_nil)
      (pss_one (ps_ddel (pv 1) (pe_ix ix_tup (pv 5) pe_int (fun _ _ => rfl))))) pss_nil)))
      (pss_one (ps_set (i := 3) sc_gone_over.nd rfl (.inl rfl) (pe_cmpR op_in_seq (pe_ix ix_tup (pv 5) pe_int (fun _ _ => rfl)) (pe_ref (by rfl) T.m_LAST_WORDS) (by rfl)))))))
      (pss_one (ps_ret (pe_tup (pa_cons pe_non (pa_cons (pv 1) pa_nil))))))))), ?_⟩
    intro d nd
    have Sd : Same H (upd H d (.dK [])) := Same.new nd
    refine ⟨_, rfl, h, xs, rfl, Sd.seq hl, ?_⟩
    refine for_it (walk_enum (K := K) (a := h) (xs := xs)) (fun i σ H2 => ∃ (st : S) (v4 v5 : Option V), σ = [some (.ref h), some (.ref d), some (.int (st.kinds.length : Nat)), some (.bl st.fin), v4, v5] ∧
      Same H H2 ∧ DiAt H2 d st ∧ st.len = i ∧ gone s0 0 os = gone st i (os.drop i))
      ⟨s0, none, none, rfl, Sd, ⟨⟨[], upd_same, by decide, List.nodup_nil, fun n => by simp [kindAt, s0, valV]⟩, good0, by decide⟩, rfl, rfl⟩
      (fun i σ H2 _ q => ?_) (fun i x σ H2 H3 hi q y => ?_) (fun σ H2 q => ?_)
    · obtain ⟨_, _, _, _, S, _⟩ := q
      exact S.seq hl
    · obtain ⟨st, v4, v5, rfl, S, D, hlen, hg⟩ := q
      obtain ⟨T1, xi, v, rfl, nT, rfl, hx, hy⟩ := y
      have hx' : some (V.int (i : Nat)) = some xi := hx
      cases hx'
      have hy' : xs[i]? = some v := hy
      obtain ⟨o, ho, hv⟩ := hos.get hy'
      have hil : i < os.length := by omega
      have S3 : Same H2 (upd H2 T1 (.tup [V.int (i : Nat), v])) := Same.new nT
      have D3 := D.same S3
      have S4 := S.trans S3
      generalize eH3 : upd H2 T1 (.tup [V.int (i : Nat), v]) = H3 at S3 D3 S4
      have hT : SqT K H3 T1 [V.int (i : Nat), v] := SqT.of (by rw [← eH3]; exact upd_same)
      have hdrop : os.drop i = o :: os.drop (i + 1) := by
        rw [List.drop_eq_getElem_cons hil]
        congr 1
        exact (List.getElem?_eq_some_iff.mp ho).2
      rw [hdrop] at hg
      -- the answer at a token that may not stand
      have out : mayO st o = false → ∀ (H5 : Hp), Same H H5 → (2 ≤ sizeLine ∧ ∀ p, H5 p = none → Q (.ref p) (upd H5 p (.tup [V.int (i : Nat), .ref d]))) := by
        intro hm H5 S5
        refine ⟨by decide, fun p np => ?_⟩
        have eg : gone s0 0 os = some i := by
          rw [hg]
          cases o with
          | none => rfl
          | some t =>
            have hm' : may st t = false := hm
            simp [gone, hm']
        refine k _ p d (S5.trans (Same.new np)) (S5.free np) nd ?_
        rw [eg]
        exact SqT.of upd_same
      refine ⟨T1, _, rfl, hT, rfl, _, _, rfl, _, _, rfl, rfl, ?_⟩
      refine ⟨_, rfl, _, rfl, ?_⟩
      refine ite2 (fun c => ?_) fun c => ?_
      · refine iteT ⟨_, rfl, _, rfl, ?_⟩
        refine out ?_ _ S4
        cases o with
        | none => rfl
        | some t => simp [mayO, may, c]
      · have fin0 : st.fin = false := by simpa using c
        refine ⟨_, rfl, v, o, rfl, hv.same S4, fun H4 S34 => ⟨_, rfl, ?_⟩⟩
        have D4 := D3.same S34
        have S5 := S4.trans S34
        cases o with
        | none =>
          refine iteT ?_
          refine iteT ⟨_, rfl, _, rfl, ?_⟩
          exact out rfl _ S5
        | some t =>
          refine iteF ?_
          obtain ⟨⟨a, rfl, ha⟩, _⟩ := hv
          have ha4 := sameT S5 ha
          refine ⟨_, rfl, a, _, _, .str t.head, rfl, rfl, ha4, at0, rfl, _, rfl, rfl, rfl, _, rfl, ?_⟩
          have eb := dec_begin t
          have ei := dec_len i
          have gg : decide (V.bl (decide (V.str t.head = V.str "begin")) = V.bl (decide (V.int (i : Nat) = V.int 0))) = (t.isBegin == (i == 0)) := by
            rw [eb, ei]
            cases t.isBegin <;> cases (i == 0) <;> rfl
          cases g2 : (t.isBegin == (i == 0)) with
          | false =>
            refine iteT' (by rw [gg, g2]; rfl) ⟨_, rfl, _, rfl, ?_⟩
            exact out (by simp [mayO, may, hlen, g2]) _ S5
          | true =>
            refine iteF' (by rw [gg, g2]; rfl) ?_
            have em : may st t = kindOk st t := by simp [may, fin0, hlen, g2]
            obtain ⟨kvs, hd4, hkl, hkn, hkv⟩ := D4.kv
            refine ⟨fun σ' H6 => σ' = [some (.ref h), some (.ref d), some (.int ((go st t).kinds.length : Nat)), some (.bl st.fin), some (.int (i : Nat)), some (.ref a)] ∧ Same H H6 ∧ DiAt H6 d (go st t) ∧ may st t = true, ?_, ?_⟩
            · cases es : t.start? with
              | some kk =>
                obtain ⟨u, e1, e2⟩ := T.hd.sta t kk es
                refine ⟨_, rfl, a, _, _, .str t.head, rfl, rfl, ha4, at0, _, _, rfl, rfl, e1, _, rfl, ?_⟩
                refine iteT ?_
                refine ⟨_, rfl, a, _, _, .str t.head, rfl, rfl, ha4, at0, _, _, _, rfl, rfl, kdct T.D_STARTED e1 e2, ?_⟩
                obtain ⟨D6, ek⟩ := D4.start hd4 es
                refine ⟨_, rfl, _, rfl, d, _, rfl, DPut.k (k := .inl (st.kinds.length : Int)) hd4 (small1000 (by omega)), ?_⟩
                refine ⟨_, rfl, _, _, rfl, rfl, ?_⟩
                refine ⟨?_, fun b o hb => ?_, D6, ?_⟩
                · rw [ek]
                  have : ((st.kinds.length + 1 : Nat) : Int) = (st.kinds.length : Int) + 1 := by omega
                  rw [this]
                  rfl
                · rw [upd_ne (ne_of_none hb nd)]
                  exact S5 b o hb
                · rw [em]
                  cases t <;> simp_all [Tok.start?, kindOk]
              | none =>
                refine ⟨_, rfl, a, _, _, .str t.head, rfl, rfl, ha4, at0, _, _, rfl, rfl, T.hd.noSta t es, _, rfl, ?_⟩
                refine iteF ?_
                cases en : t.num? with
                | none =>
                  refine ⟨_, rfl, a, _, _, .str t.head, rfl, rfl, ha4, at0, _, _, rfl, rfl, T.hd.noNam t en, _, rfl, ?_⟩
                  obtain ⟨D6, ek⟩ := D4.other (t := t) es en
                  refine iteF ⟨by rw [ek]; rfl, S5, D6, ?_⟩
                  rw [em]
                  cases t <;> simp_all [Tok.num?, kindOk]
                | some n =>
                  obtain ⟨p, e1, e2⟩ := T.hd.nam t n en
                  have hv1 : SqT K H4 a (.str t.head :: .int n :: tail2 t) := by rw [← vals_num en]; exact ha4
                  refine ⟨_, rfl, a, _, _, .str t.head, rfl, rfl, ha4, at0, _, _, rfl, rfl, e1, _, rfl, ?_⟩
                  refine iteT ?_
                  refine ⟨_, rfl, d, rfl, .inl ⟨_, .inl hd4⟩, _, rfl, a, _, _, .int n, rfl, rfl, hv1, at1, _, DGet.k (k := .inl (n : Int)) hd4, ?_⟩
                  refine ⟨_, rfl, a, _, _, .str t.head, rfl, rfl, ha4, at0, _, _, .ref p, rfl, rfl, kdct T.D_NAMED e1 rfl, ?_⟩
                  refine ⟨p, nms t, rfl, .inr (e2 _), ?_, ?_, ?_⟩
                  · rw [hkv]
                    unfold kindAt
                    split
                    · cases st.kinds[((n : Nat) : Int).toNat]? <;> rfl
                    · rfl
                  · cases t <;> rfl
                  · refine ⟨_, rfl, ?_⟩
                    have ein : inV ((valV kvs (Sum.inl (n : Int))).getD .non) (nms t) = kindOk st t := by rw [hkv, in_nms en D4.gd]
                    cases kk : kindOk st t with
                    | false =>
                      refine iteT' (by rw [ein, kk]; rfl) ⟨_, rfl, _, rfl, ?_⟩
                      exact out (by rw [← kk, ← em]; rfl) _ S5
                    | true =>
                      refine iteF' (by rw [ein, kk]; rfl) ?_
                      have hm : n ∈ st.run := kind_run en kk
                      have hs : (valV kvs (.inl (n : Int))).isSome = true := by
                        rw [hkv]
                        unfold kindAt
                        rw [if_pos ⟨by omega, by simpa using hm⟩]
                        simp [D4.gd.few' n hm]
                      obtain ⟨D6, ek⟩ := D4.drop hd4 en
                      refine ⟨_, rfl, _, rfl, a, _, _, .int n, rfl, rfl, hv1, at1, d, kvs, .inl (n : Int), rfl, hd4, rfl, hs, ?_⟩
                      refine ⟨by rw [ek]; rfl, fun b o hb => ?_, D6, em.trans kk⟩
                      rw [upd_ne (ne_of_none hb nd)]
                      exact S5 b o hb
            · rintro σ' H6 ⟨rfl, S6, D6, hm⟩
              refine ⟨_, rfl, a, _, _, .str t.head, rfl, rfl, sameT S6 ha, at0, He.ga K "LAST_WORDS", _, rfl, .inr (T.lastT _), rfl, rfl, ?_⟩
              rw [last_in]
              refine ⟨go st t, some (.int (i : Nat)), some (.ref a), ?_, S6, D6, ?_, ?_⟩
              · rw [(go_lf st t).2]
                rfl
              · rw [(go_lf st t).1, hlen]
              · rw [hg]
                simp [gone, hm]
    · obtain ⟨st, v4, v5, rfl, S, D, hlen, hg⟩ := q
      rw [el, List.drop_length] at hg
      refine ⟨_, rfl, by show 2 ≤ sizeLine; decide, fun p np => ?_⟩
      refine k _ p d (S.trans (Same.new np)) (S.free np) nd ?_
      rw [hg]
      exact SqT.of upd_same
end
end K13

set_option Elab.async false
set_option maxRecDepth 100000
set_option maxHeartbeats 4000000
set_option linter.all false
namespace K13
open PySem PySem.Spec PyProof.Rows L2
/-! ### the turns of a flat list, by the places where they begin -/
def outs (i : Nat) : List Tok → List Nat
  | [] => []
  | t :: r => if t.outer then i :: outs (i + 1) r else outs (i + 1) r
def slc {α : Type} (W : List α) (a b : Nat) : List α := (W.drop a).take (b - a)
theorem outs_app : ∀ (a : List Tok) (i : Nat) (t : Tok), outs i (a ++ [t]) = outs i a ++ (if t.outer then [i + a.length] else [])
  | [], i, t => by
    simp only [List.nil_append, outs, List.length_nil, Nat.add_zero]
  | x :: a, i, t => by
    have ih := outs_app a (i + 1) t
    have e : i + 1 + a.length = i + (a.length + 1) := by omega
    simp only [List.cons_append, outs, List.length_cons]
    rw [ih, e]
    split <;> rfl
theorem outs_le : ∀ (a : List Tok) (i : Nat), (outs i a).length ≤ a.length
  | [], i => Nat.le_refl _
  | x :: a, i => by
    have := outs_le a (i + 1)
    simp only [outs, List.length_cons]
    split
    · simp only [List.length_cons]; omega
    · omega
theorem outs_lt : ∀ (a : List Tok) (i : Nat), ∀ n ∈ outs i a, i ≤ n ∧ n < i + a.length
  | [], i, n, h => by cases h
  | x :: a, i, n, h => by
    have ih := outs_lt a (i + 1) n
    simp only [outs] at h
    simp only [List.length_cons]
    split at h
    · rcases List.mem_cons.mp h with q | q
      · omega
      · have := ih q; omega
    · have := ih h; omega
theorem slc_cons {α : Type} {W : List α} {i b : Nat} {x : α} {r : List α} (h : W.drop i = x :: r) (hb : i < b) : slc W i b = x :: slc W (i + 1) b := by
  unfold slc
  have e1 : W.drop (i + 1) = r := by
    rw [← List.drop_drop, h]
    rfl
  rw [h, e1]
  have e2 : b - i = (b - (i + 1)) + 1 := by omega
  rw [e2, List.take_succ_cons]
theorem cutR_slc (W : List Tok) : ∀ (ts : List Tok) (i : Nat), W.drop i = ts → i + ts.length = W.length →
    (cutR ts).1 = slc W i ((outs i ts ++ [W.length]).headD 0) ∧ (cutR ts).2 = List.zipWith (slc W) (outs i ts) ((outs i ts).tail ++ [W.length])
  | [], i, h, hl => by
    refine ⟨?_, rfl⟩
    simp only [cutR, outs, List.nil_append, List.headD_cons]
    unfold slc
    rw [h]
    simp
  | t :: r, i, h, hl => by
    simp only [List.length_cons] at hl
    have h1 : W.drop (i + 1) = r := by
      rw [← List.drop_drop, h]
      rfl
    obtain ⟨q1, q2⟩ := cutR_slc W r (i + 1) h1 (by omega)
    have hb : i < (outs (i + 1) r ++ [W.length]).headD 0 := by
      cases e : outs (i + 1) r with
      | nil => simp; omega
      | cons a l =>
        have := (outs_lt r (i + 1) a (by rw [e]; exact List.mem_cons_self)).1
        simp
        omega
    have es := slc_cons h hb
    cases o : t.outer with
    | true =>
      simp only [cutR, outs, o, if_true, List.cons_append, List.headD_cons, List.tail_cons]
      refine ⟨?_, ?_⟩
      · unfold slc
        simp
      · rw [q1, ← es, q2]
        cases e : outs (i + 1) r with
        | nil => rfl
        | cons a l => simp
    | false =>
      simp only [cutR, outs, o, Bool.false_eq_true, if_false]
      rw [q1, ← es]
      exact ⟨rfl, q2⟩
theorem cut_slc {t : Tok} {r : List Tok} (e : t.outer = true) : cutAll (t :: r) = List.zipWith (slc (t :: r)) (outs 0 (t :: r)) ((outs 0 (t :: r)).tail ++ [(t :: r).length]) := by
  rw [cutAll_R e]
  exact (cutR_slc (t :: r) (t :: r) 0 rfl (by simp)).2
theorem All2.tk {α β : Type} {R : α → β → Prop} {xs : List α} {ys : List β} (h : All2 R xs ys) : ∀ n : Nat, All2 R (xs.take n) (ys.take n) := by
  induction h with
  | nil => intro n; simp; exact .nil
  | cons h _ ih =>
    intro n
    cases n with
    | zero => exact .nil
    | succ n => exact .cons h (ih n)
theorem All2.dp {α β : Type} {R : α → β → Prop} {xs : List α} {ys : List β} (h : All2 R xs ys) : ∀ n : Nat, All2 R (xs.drop n) (ys.drop n) := by
  induction h with
  | nil => intro n; simp; exact .nil
  | cons h t ih =>
    intro n
    cases n with
    | zero => exact .cons h t
    | succ n => exact ih n
theorem cutV_slc {xs : List V} {a b : Nat} (h1 : a ≤ xs.length) (h2 : b ≤ xs.length) : cutV xs (some (a : Int)) (some (b : Int)) = slc xs a b := by
  unfold cutV slc
  rw [HT.sIx_nat, HT.sIx_nat, Nat.min_eq_left h1, Nat.min_eq_left h2]
def spTurnsIn (K : PySem.W.Frag) : Sp := fun vs H Q _ => ∃ (h : Addr) (xs : List V) (t : Tok) (r : List Tok), vs = [.ref h] ∧ SqL K H h xs ∧ All2 (TokAt K H) xs (t :: r) ∧ t.outer = true ∧ (t :: r).length ≤ 450 ∧
  ∀ (H' : Hp) (p : Addr) (rs : List Addr), Same H H' → Fresh H p rs → TurnsAt K H' p rs (cutAll (t :: r)) → Q (.ref p) H'
section
variable {P : Program} {w : World} {K : PySem.W.Frag} {mg : Str → Option Value} {base : Heap}
theorem ok_turnsIn {f : Addr} {fd : FuncData} (F : FnP K "turns_in" "turns_in" s_turns_in f fd) (T : Tx w K mg) (G_is_outer : Def P w K mg base CX0 1 "is_outer" p_is_outer (spIsOuter K)) :
    FnOk P w K mg base CX0 2 f fd p_turns_in (spTurnsIn K) := by
  refine F.ok sc_turns_in (fun vs H Q E h => ?_) (fun cdv A outer s H vs Q E hr h => ?_)
  · obtain ⟨h, xs, t, r, rfl, _⟩ := h
    rfl
  · obtain ⟨h, xs, t, r, rfl, hl, hts, ot, few, k⟩ := h
    rw [cut_slc ot] at k
    generalize t :: r = W at hts few k
    have el := hts.len
    refine ⟨_, PSs.nox (pss_cons (ps_setLc (i := 1) (own := [("at", 3), ("token", 4)]) (g := (gTup K 2 (gCons (gName 3) (gCons (gName 4) gNil)))) (by rfl) sc_turns_in.nd rfl rfl (sw_true rfl rfl rfl (by decide +kernel)) (pi_enum (by rfl) T.b_enumerate (pa_cons (pv 0) pa_nil)) (blkOk_by (N := n_turns_in) (sc := defScope s_turns_in) (by decide +kernel)) (fun _ _ _ _ _ => (pg_tup (by rfl) (pgs_cons (pg_name (i := 3) sc_turns_in.nd rfl (.inl rfl)) (pgs_cons (pg_name (i := 4) sc_turns_in.nd rfl (.inl rfl)) pgs_nil)))) (fun _ _ _ _ _ => (pts_one (pt_val (pe_fn G_is_outer (hr.mono (by decide)) (by rfl) pass0 (pa_cons (pv 4) pa_nil))))) (fun _ _ _ _ _ => (pv 3)))
      (pss_cons (ps_set (i := 2) sc_turns_in.nd rfl (.inl rfl) (pe_op op_cat (pe_slice sl_list (pv 1) (po_some pe_int) po_none) (pe_lst (pa_cons (pe_callB call_len_seq (by rfl) T.b_len PySem.boot_len (pa_cons (pv 0) pa_nil)) pa_nil))))
      (pss_one (ps_ret (pe_lc (own := [("start", 5), ("end", 6)]) (g := (gTup K 2 (gCons (gName 5) (gCons (gName 6) gNil)))) (by rfl) sc_turns_in.nd (RZ.pi_zipA (by rfl) T.b_zip (pa_cons (pv 1) (pa_cons (pv 2) pa_nil))) (blkOk_by (N := n_turns_in) (sc := defScope s_turns_in) (by decide +kernel)) (fun _ _ _ _ _ => (pg_tup (by rfl) (pgs_cons (pg_name (i := 5) sc_turns_in.nd rfl (.inl rfl)) (pgs_cons (pg_name (i := 6) sc_turns_in.nd rfl (.inl rfl)) pgs_nil)))) (fun _ _ _ _ _ => pts_nil) (fun _ _ _ _ _ => (pe_slice (show SlR _ (rSlL K) from sl_list) (pv 0) (po_some (pv 5)) (po_some (pv 6))))))))), ?_⟩
    refine ⟨_, rfl, h, xs, rfl, hl, fun D nD => ?_⟩
    have hD0 : H D = none := nD
    refine lc_it (walk_enum (K := K) (a := h) (xs := xs)) (fun i H' => Same H H' ∧ H' D = some (.lst (nats (outs 0 (W.take i))))) ⟨Same.new nD, upd_same⟩
      (fun i H' _ q => q.1.seq hl) (fun i x H2 H3 hi q y => ?_) (fun H2 q => ?_)
    · obtain ⟨S2, hD⟩ := q
      obtain ⟨T1, xi, v, rfl, nT, rfl, hx, hy⟩ := y
      have hx' : some (V.int (i : Nat)) = some xi := hx
      cases hx'
      have hy' : xs[i]? = some v := hy
      obtain ⟨u, hu, hv⟩ := hts.get hy'
      have S3 : Same H2 (upd H2 T1 (.tup [V.int (i : Nat), v])) := Same.new nT
      have S4 := S2.trans S3
      refine ⟨T1, _, rfl, SqT.of upd_same, rfl, _, _, rfl, _, _, rfl, rfl, rfl, ?_⟩
      refine ⟨_, rfl, v, u, rfl, hv.same S4, _, rfl, ?_⟩
      have hD3 := S3 _ _ hD
      have ex : (W.take i).length = i := by rw [List.length_take]; omega
      have eo := outs_app (W.take i) 0 u
      rw [← take_more hu, ex, Nat.zero_add] at eo
      cases o : u.outer with
      | true =>
        refine iteT ?_
        refine ⟨_, rfl, _, hD3, ?_, fun b ob hb => ?_, ?_⟩
        · have := outs_le (W.take i) 0
          rw [List.length_map]
          exact small1000 (by omega)
        · rw [upd_ne (ne_of_none hb hD0)]
          exact S4 _ _ hb
        · rw [upd_same, eo, o]
          simp [nats]
      | false =>
        refine iteF ⟨S4, ?_⟩
        rw [eo, o, hD3]
        simp
    · obtain ⟨S2, hD⟩ := q
      rw [el, List.take_length] at hD
      generalize ho : outs 0 W = os at hD k
      have ol : os.length ≤ W.length := by rw [← ho]; exact outs_le W 0
      have olt : ∀ n ∈ os, n < W.length := fun n hn => by
        rw [← ho] at hn
        have := (outs_lt W 0 n hn).2
        omega
      refine ⟨_, rfl, 1, rfl, D, _, rfl, SqL.of hD, fun p1 n1 => ?_⟩
      have et : cutV (nats os) (some 1) none = nats os.tail := by
        unfold cutV
        have e1 : HT.sIx (nats os).length 0 (some ((1 : Nat) : Int)) = min 1 (nats os).length := HT.sIx_nat _ _ _
        rw [show (some (1 : Int)) = some ((1 : Nat) : Int) from rfl, e1, HT.sIx_none]
        cases os with
        | nil => rfl
        | cons a l =>
          simp only [nats, List.map_cons, List.length_cons, List.tail_cons]
          rw [Nat.min_eq_left (by omega)]
          simp only [List.drop_succ_cons, List.drop_zero, Nat.add_sub_cancel, List.take_length]
      rw [et]
      generalize eG1 : upd H2 p1 (.lst (nats os.tail)) = G1
      have SG1 : Same H2 G1 := by rw [← eG1]; exact Same.new n1
      have hp1 : G1 p1 = some (.lst (nats os.tail)) := by rw [← eG1]; exact upd_same
      refine ⟨_, rfl, h, xs, rfl, .inl ((S2.trans SG1).seq hl), by show 1 ≤ sizeLine; decide, fun p2 n2 => ?_⟩
      generalize eG2 : upd G1 p2 (.lst [V.int (xs.length : Nat)]) = G2
      have SG2 : Same G1 G2 := by rw [← eG2]; exact Same.new n2
      have hp2 : G2 p2 = some (.lst [V.int (xs.length : Nat)]) := by rw [← eG2]; exact upd_same
      refine ⟨p1, p2, nats os.tail, [V.int (xs.length : Nat)], rfl, rfl, SG2 _ _ hp1, hp2, ?_, fun p3 n3 => ?_⟩
      · rw [sizeLine_eq]
        simp only [nats, List.length_map, List.length_tail, List.length_cons, List.length_nil]
        omega
      have eE : nats os.tail ++ [V.int (xs.length : Nat)] = nats (os.tail ++ [W.length]) := by rw [el]; simp [nats]
      rw [eE]
      generalize eG3 : upd G2 p3 (.lst (nats (os.tail ++ [W.length]))) = G3
      have SG3 : Same G2 G3 := by rw [← eG3]; exact Same.new n3
      have hp3 : G3 p3 = some (.lst (nats (os.tail ++ [W.length]))) := by rw [← eG3]; exact upd_same
      have S3 := ((S2.trans SG1).trans SG2).trans SG3
      have hD3 : G3 D = some (.lst (nats os)) := SG3 _ _ (SG2 _ _ (SG1 _ _ hD))
      refine ⟨_, rfl, _, rfl, D, p3, nats os, nats (os.tail ++ [W.length]), rfl, .inl ⟨SqL.of hD3, SqL.of hp3, fun R nR => ?_⟩⟩
      have hR0 : H R = none := S3.free nR
      generalize ee : os.tail ++ [W.length] = es at hp3
      have esl : es.length = os.length ∨ os = [] := by
        rw [← ee]
        cases os with
        | nil => exact .inr rfl
        | cons a l => exact .inl (by simp)
      have elt : ∀ n ∈ es, n ≤ W.length := fun n hn => by
        rw [← ee] at hn
        rcases List.mem_append.mp hn with q | q
        · exact Nat.le_of_lt (olt n (List.mem_of_mem_tail q))
        · rw [List.mem_singleton.mp q]; exact Nat.le_refl _
      have emin : os.length = min (nats os).length (nats es).length := by
        simp only [nats, List.length_map]
        rcases esl with q | q
        · omega
        · rw [q]; simp
      refine lc_it (walk_zip (K := K) (a := D) (b := p3) (xs := nats os) (ys := nats es) (n := os.length) emin) (fun i H' => Same G3 H' ∧ ∃ rs : List Addr, H' R = some (.lst (rs.map V.ref)) ∧ All2 (LT K H') rs ((List.zipWith (slc W) os es).take i) ∧ (∀ r ∈ rs, H r = none ∧ r ≠ R) ∧ rs.Nodup)
        ⟨Same.new nR, [], upd_same, .nil, by simp, List.nodup_nil⟩ (fun i H' _ q => ⟨SqL.of (q.1 _ _ hD3), SqL.of (q.1 _ _ hp3)⟩) (fun i x H4 H5 hi q y => ?_) (fun H4 q => ?_)
      · obtain ⟨S4, rs, hR, hrs, hf, hnd⟩ := q
        obtain ⟨T1, xa, xb, rfl, nT, rfl, hx, hy⟩ := y
        obtain ⟨na, ha, rfl⟩ := nats_get (show (nats os)[i]? = some xa from hx)
        obtain ⟨nb, hb, rfl⟩ := nats_get (show (nats es)[i]? = some xb from hy)
        refine ⟨T1, _, rfl, SqT.of upd_same, rfl, _, _, rfl, _, _, rfl, rfl, rfl, ?_⟩
        refine tYes_ ?_
        refine iteT ?_
        have ia : na < W.length := olt na (List.mem_of_getElem? ha)
        have ib : nb ≤ W.length := elt nb (List.mem_of_getElem? hb)
        have S5 : Same G3 (upd H4 T1 (.tup [V.int (na : Nat), V.int (nb : Nat)])) := S4.trans (Same.new nT)
        have hR5 : upd H4 T1 (.tup [V.int (na : Nat), V.int (nb : Nat)]) R = some (.lst (rs.map V.ref)) := by rw [upd_ne (ne_of_none hR nT)]; exact hR
        have hrs5 : All2 (LT K (upd H4 T1 (.tup [V.int (na : Nat), V.int (nb : Nat)]))) rs ((List.zipWith (slc W) os es).take i) := hrs.imp fun x y _ q => q.same (Same.new nT)
        generalize upd H4 T1 (.tup [V.int (na : Nat), V.int (nb : Nat)]) = H5 at S5 hR5 hrs5
        refine ⟨_, rfl, _, rfl, (na : Int), rfl, _, rfl, (nb : Int), rfl, h, xs, rfl, (S3.trans S5).seq hl, fun q nq => ?_⟩
        rw [cutV_slc (by omega) (by omega)]
        have S6 : Same H5 (upd H5 q (.lst (slc xs na nb))) := Same.new nq
        have hq0 : H q = none := (S3.trans S5).free nq
        have qR : q ≠ R := (ne_of_none hR5 nq).symm
        have hR6 := S6 _ _ hR5
        have hi' : (List.zipWith (slc W) os es)[i]? = some (slc W na nb) := by
          rw [List.getElem?_zipWith, ha, hb]
        have lrs := hrs5.len
        rw [List.length_take] at lrs
        refine ⟨_, hR6, ?_, (fun b ob hb0 => ?_), rs ++ [q], ?_, ?_, ?_, ?_⟩
        · rw [List.length_map]
          exact small1000 (by omega)
        · rw [upd_ne (ne_of_none hb0 nR)]
          exact (S5.trans S6) b ob hb0
        · rw [upd_same, List.map_append]
          rfl
        · rw [take_more hi']
          refine All2.app (hrs5.imp fun x y hx z => LT.beside (z.same S6) hR6 (hf x hx).2) (All2.one ?_)
          refine LT.beside ⟨slc xs na nb, upd_same, ?_⟩ hR6 qR
          exact ((hts.dp na).tk (nb - na)).imp fun x y _ z => (z.same (S3.trans S5)).same S6
        · intro r hr
          rcases List.mem_append.mp hr with z | z
          · exact hf r z
          · rw [List.mem_singleton.mp z]
            exact ⟨hq0, qR⟩
        · refine List.nodup_append.mpr ⟨hnd, by simp, fun x hx y hy z => ?_⟩
          rw [List.mem_singleton.mp hy] at z
          subst z
          obtain ⟨zs, q1⟩ := hrs5.tracked hx
          rw [q1] at nq
          cases nq
      · obtain ⟨S4, rs, hR, hrs, hf, hnd⟩ := q
        refine k H4 R rs (S3.trans S4) ⟨hR0, fun r hr => (hf r hr).1, fun z => (hf _ z).2 rfl, hnd⟩ ⟨hR, ?_⟩
        have : (List.zipWith (slc W) os es).length ≤ os.length := by rw [List.length_zipWith]; omega
        rw [List.take_of_length_le this] at hrs
        rw [ee]
        exact hrs
end
end K13

set_option Elab.async false
set_option maxRecDepth 100000
set_option maxHeartbeats 4000000
set_option linter.all false
namespace K13
open PySem PySem.Spec PyProof.Rows L2
abbrev cIH (K : PySem.W.Frag) : Addr := He.ga K "InvalidHistory"
/-- any value that may be a history: None for what is no list -/
def HistV (K : PySem.W.Frag) (H : Hp) (v : V) : Option (List (Option Tok)) → Prop
  | some os => ∃ h xs, v = .ref h ∧ SqL K H h xs ∧ All2 (TV K H) xs os
  | none => NotL K H v
def flaw : Option (List (Option Tok)) → Option Int
  | none => some (-1)
  | some [] => some 0
  | some os => (gone s0 0 os).map fun i : Nat => (i : Int)
def osL : Option (List (Option Tok)) → List (Option Tok)
  | none => []
  | some os => os
def spCutG (K : PySem.W.Frag) : Sp := fun vs H Q E => ∃ (v : V) (o : Option (List (Option Tok))), vs = [v] ∧ HistV K H v o ∧ (osL o).length ≤ 450 ∧
  (flaw o = none → ∀ (H' : Hp) (p : Addr) (rs : List Addr), Same H H' → Fresh H p rs → TurnsAt K H' p rs (cutAll ((osL o).filterMap id)) → Q (.ref p) H') ∧
  (∀ i, flaw o = some i → ∀ (d0 : Addr) (H' : Hp), Same H H' → H d0 = none → H' d0 = some (.xd [("at", .int i)]) → E (.ref (cIH K)) (some d0) H')
def spCheckG (K : PySem.W.Frag) : Sp := fun vs H Q E => ∃ (v : V) (o : Option (List (Option Tok))), vs = [v] ∧ HistV K H v o ∧ (osL o).length ≤ 450 ∧
  (flaw o = none → ∀ (H' : Hp), Same H H' → Q (.int (cutAll ((osL o).filterMap id)).length) H') ∧
  (∀ i, flaw o = some i → ∀ (d0 : Addr) (H' : Hp), Same H H' → H d0 = none → H' d0 = some (.xd [("at", .int i)]) → E (.ref (cIH K)) (some d0) H')
theorem raise_at {K : PySem.W.Frag} {H0 H1 : Hp} {E : XK} {i : Int} (S : Same H0 H1) (k : ∀ (d0 : Addr) (H' : Hp), Same H0 H' → H0 d0 = none → H' d0 = some (.xd [("at", .int i)]) → E (.ref (cIH K)) (some d0) H') :
    ∀ (d0 : Addr) (H' : Hp), H1 d0 = none → H' d0 = some (.xd [("at", .int i)]) → (∀ b, b ≠ d0 → H' b = H1 b) → E (.ref (cIH K)) (some d0) H' :=
  fun d0 H' nd hd oth => k d0 H' (fun b o hb => by
    have := S b o hb
    rw [oth b (ne_of_none this nd)]
    exact this) (S.free nd) hd
theorem gone_all : ∀ (os : List (Option Tok)) (s : S) (i : Nat), gone s i os = none → (os.filterMap id).map some = os ∧ valid s (os.filterMap id) = true
  | [], _, _, _ => ⟨rfl, rfl⟩
  | none :: r, s, i, h => by cases h
  | some t :: r, s, i, h => by
    simp only [gone] at h
    split at h
    · rename_i m
      obtain ⟨h1, h2⟩ := gone_all r _ _ h
      have e : (some t :: r).filterMap id = t :: r.filterMap id := rfl
      rw [e]
      refine ⟨by rw [List.map_cons, h1], ?_⟩
      simp [valid, m, h2]
    · cases h
theorem gone_of {os : List (Option Tok)} (ne : os ≠ []) (h : flaw (some os) = none) : ∃ t r, os.filterMap id = t :: r ∧ os = (t :: r).map some ∧ t.outer = true ∧ valid s0 (t :: r) = true := by
  cases os with
  | nil => exact absurd rfl ne
  | cons a b =>
    have h' : gone s0 0 (a :: b) = none := by
      cases q : gone s0 0 (a :: b) with
      | none => rfl
      | some i => simp [flaw, q] at h
    obtain ⟨h1, h2⟩ := gone_all _ _ _ h'
    cases e : (a :: b).filterMap id with
    | nil => rw [e] at h1; cases h1
    | cons t r =>
      rw [e] at h1 h2
      exact ⟨t, r, rfl, h1.symm, begin_outer h2, h2⟩
theorem tv_some {K : PySem.W.Frag} {H : Hp} : ∀ {xs : List V} {ts : List Tok}, All2 (TV K H) xs (ts.map some) → All2 (TokAt K H) xs ts
  | [], [], _ => .nil
  | _ :: _, [], h => by cases h
  | [], _ :: _, h => by cases h
  | x :: xs, t :: ts, h => by
    cases h with
    | cons h1 h2 => exact .cons h1.1 (tv_some h2)
theorem tv_of {K : PySem.W.Frag} {H : Hp} {xs : List V} {ts : List Tok} (h : All2 (TokAt K H) xs ts) (ok : ∀ t ∈ ts, okW t) : All2 (TV K H) xs (ts.map some) := by
  induction h with
  | nil => exact .nil
  | cons h1 _ ih => exact .cons ⟨h1, ok _ List.mem_cons_self⟩ (ih fun t ht => ok t (List.mem_cons_of_mem _ ht))
section
variable {P : Program} {w : World} {K : PySem.W.Frag} {mg : Str → Option Value} {base : Heap}
theorem ok_cutG {f : Addr} {fd : FuncData} (F : FnP K "cut" "cut" s_cut f fd) (T : Tx w K mg) (E_InvalidHistory : ErrDef P w K mg base CX0 1 "InvalidHistory" (cIH K) ["self", "at"] ["at"])
    (G_gone_over : Def P w K mg base CX0 4 "gone_over" p_gone_over (spGone K)) (G_turns_in : Def P w K mg base CX0 2 "turns_in" p_turns_in (spTurnsIn K)) : FnOk P w K mg base (L2.CX P w) 5 f fd p_cut (spCutG K) := by
  refine F.ok sc_cut (fun vs H Q E h => ?_) (fun cdv A outer s H vs Q E hr h => ?_)
  · obtain ⟨v, o, rfl, _⟩ := h
    rfl
  · obtain ⟨v, o, rfl, hv, few, kq, ke⟩ := h
    refine ⟨_, (pss_cons (ps_if (pt_not (pt_val (pe_callB call_isi (by rfl) T.b_isinstance (by decide +kernel) (pa_cons (pv 0) (pa_cons (pe_bltn (v := .ty "list") (u := .type "list") (by rfl) T.b_list (by decide +kernel) rfl) pa_nil))))) (pss_one (ps_raise rfl (takes_of rfl rfl rfl rfl) (pmk_errL E_InvalidHistory (hr.mono (by decide)) (by rfl) pass0 (pa_cons (pe_un un_neg pe_int) pa_nil)))) pss_nil)
      (pss_cons (ps_set (i := 1) sc_cut.nd rfl (.inl rfl) (pe_ifExp (pt_cmpR op_eq (pe_callB call_len_seq (by rfl) T.b_len PySem.boot_len (pa_cons (pv 0) pa_nil)) pe_int (nomark _)) pe_int (pe_ix ix_tup (pe_fn G_gone_over (hr.mono (by decide)) (by rfl) pass0 (pa_cons (pv 0) pa_nil)) pe_int (fun _ _ => rfl))))
      (pss_cons (ps_if (pt_cmpR op_notN (pv 1) pe_non (nomark _)) (pss_one (ps_raise rfl (takes_of rfl rfl rfl rfl) (pmk_errL E_InvalidHistory (hr.mono (by decide)) (by rfl) pass0 (pa_cons (pv 1) pa_nil)))) pss_nil)
      (pss_one (ps_ret (pe_fn G_turns_in (hr.mono (by decide)) (by rfl) pass0 (pa_cons (pv 0) pa_nil))))))), ?_⟩
    cases o with
    | none =>
      obtain ⟨ty, h1, h2⟩ := NotL.ty hv
      refine ⟨_, rfl, v, .ty "list", _, _, false, rfl, .ty _, h1, h2, _, rfl, ?_⟩
      refine iteT ?_
      exact ⟨1, rfl, rfl, raise_at (Same.refl H) (ke _ rfl)⟩
    | some os =>
      obtain ⟨h, xs, rfl, hl, hos⟩ := hv
      have el := hos.len
      refine ⟨_, rfl, .ref h, .ty "list", _, _, true, rfl, .ty _, tyL hl, kit_ty (by decide +kernel), _, rfl, ?_⟩
      refine iteF ?_
      refine ⟨_, rfl, h, xs, rfl, .inl hl, rfl, _, rfl, ?_⟩
      refine ite2 (fun c => ?_) fun c => ?_
      · have e : os = [] := by
          have := of_decide_eq_true c
          injection this with z
          have : os.length = 0 := by omega
          exact List.length_eq_zero_iff.mp this
        subst e
        refine ⟨_, rfl, rfl, _, rfl, ?_⟩
        refine iteT' rfl ?_
        exact ⟨_, rfl, rfl, raise_at (Same.refl H) (ke _ rfl)⟩
      · have ne : os ≠ [] := fun z => c (decide_eq_true (by rw [el, z]; rfl))
        refine ⟨_, rfl, h, xs, os, rfl, hl, hos, few, fun H1 p d S1 np nd hp => ?_⟩
        have ef : flaw (some os) = (gone s0 0 os).map fun i : Nat => (i : Int) := by
          cases os with
          | nil => exact absurd rfl ne
          | cons a b => rfl
        refine ⟨p, _, _, _, rfl, rfl, hp, at0, ?_⟩
        refine ⟨_, rfl, rfl, _, rfl, ?_⟩
        cases eg : gone s0 0 os with
        | some i =>
          rw [eg] at ef
          refine iteT' (by rfl) ?_
          exact ⟨_, rfl, rfl, raise_at S1 (ke _ ef)⟩
        | none =>
          rw [eg] at ef
          refine iteF' (by rfl) ?_
          obtain ⟨t, r, e1, e2, e3, e4⟩ := gone_of ne ef
          rw [e2] at hos
          refine ⟨_, rfl, h, xs, t, r, rfl, S1.seq hl, (tv_some hos).imp fun x y _ z => z.same S1, e3, ?_, fun H2 q rs S2 fr ta => ?_⟩
          · have := congrArg List.length e2
            rw [List.length_map] at this
            rw [← this]
            exact few
          · refine kq ef H2 q rs (S1.trans S2) ⟨S1.free fr.1, fun x hx => S1.free (fr.2.1 x hx), fr.2.2⟩ ?_
            show TurnsAt K H2 q rs (cutAll (os.filterMap id))
            rw [e1]
            exact ta
theorem ok_checkG {f : Addr} {fd : FuncData} (F : FnP K "check" "check" s_check f fd) (T : Tx w K mg) (G_cut : Def P w K mg base (L2.CX P w) 5 "cut" p_cut (spCutG K)) : FnOk P w K mg base (L2.CX P w) 6 f fd p_check (spCheckG K) := by
  refine F.ok sc_check (fun vs H Q E h => ?_) (fun cdv A outer s H vs Q E hr h => ?_)
  · obtain ⟨v, o, rfl, _⟩ := h
    rfl
  · obtain ⟨v, o, rfl, hv, few, kq, ke⟩ := h
    refine ⟨_, (pss_one (ps_ret (pe_callB call_len_seq (by rfl) T.b_len PySem.boot_len (pa_cons (pe_fnS G_cut (hr.mono (by decide)) (by rfl) (takes_of rfl rfl rfl rfl) (pa_cons (pv 0) pa_nil)) pa_nil)))), ?_⟩
    refine ⟨_, rfl, v, o, rfl, hv, few, fun hf H1 p rs S1 fr ta => ?_, fun i hf d0 H1 S1 nd hd => ke i hf d0 H1 S1 nd hd⟩
    refine ⟨p, _, rfl, .inl (SqL.of ta.1), ?_⟩
    have := ta.2.len
    rw [List.length_map, this]
    exact kq hf H1 S1
end
end K13

set_option Elab.async false
set_option maxRecDepth 100000
set_option maxHeartbeats 4000000
set_option linter.all false
namespace K13
open PySem PySem.Spec PyProof.Rows L2
/-! ### the empty program -/
abbrev gos : List V := [.str "go"]
def spGoWords (K : PySem.W.Frag) : Sp := fun vs H Q _ => ∃ a, vs = [.ref a, .int 3] ∧ SqT K H a gos ∧ ∀ H', Same H H' → Q (.bl true) H'
def spNoTable : Sp := fun vs H Q _ => ∃ (z : Str) (i : Int), vs = [.non, .str z, .int i] ∧ ∀ d, H d = none → Q (.ref d) (upd H d (.dK []))
/-- the object at p gets fields, nothing else is changed, what is new is new -/
def Fills (C : Addr) (H H' : Hp) (p : Addr) : Prop := (∀ b o, H b = some o → b ≠ p → H' b = some o) ∧ ∃ dx fs, H' p = some (.ins C dx fs)
def rcF (v w : V) (b : Bool) (d e : Addr) : List (Str × V) := [("ask_table", v), ("signal_table", w), ("with_edits", .bl b), ("seen_edits", .ref d), ("seen_gates", .ref e)]
def spRC (K : PySem.W.Frag) : Sp := fun vs H Q _ => ∃ (p dx : Addr) (v w : V) (b : Bool), vs = [.ref p, v, w, .bl b] ∧ H p = some (.ins (He.ga K "RowCheck") dx []) ∧ ∀ (H' : Hp) (d e : Addr), (∀ b o, H b = some o → b ≠ p → H' b = some o) → H' p = some (.ins (He.ga K "RowCheck") dx (rcF v w b d e)) → Q .non H'
def spRows0 (K : PySem.W.Frag) : Sp := fun vs H Q _ => ∃ (p r dx d e : Addr) (v w : V) (b : Bool), vs = [.ref p, .ref r] ∧ H p = some (.ins (He.ga K "RowCheck") dx (rcF v w b d e)) ∧ H r = some (.lst []) ∧ ∀ H', Same H H' → Q .non H'
def spList0 (K : PySem.W.Frag) : Sp := fun vs H Q _ => ∃ (p r : Addr) (v : V) (b : Bool), vs = [.ref p, .ref r, v, .bl b] ∧ H r = some (.lst []) ∧ ∀ H', Same H H' → Q .non H'
def spCopied0 : Sp := fun vs H Q _ => ∃ r, vs = [.ref r] ∧ H r = some (.lst []) ∧ ∀ d, H d = none → Q (.ref d) (upd H d (.lst []))
def spLay0 : Sp := fun vs H Q _ => ∃ (p r : Addr) (v w x : V), vs = [.ref p, .ref r, v, w, x] ∧ H r = some (.lst []) ∧ ∀ H', Same H H' → Q .non H'
def spPlan (K : PySem.W.Frag) : Sp := fun vs H Q _ => ∃ (p dx r : Addr), vs = [.ref p, .ref r] ∧ H p = some (.ins (He.ga K "Plan") dx []) ∧ H r = some (.lst []) ∧
  ∀ (H' : Hp) (fl : Addr) (rest : List (Str × V)), (∀ b o, H b = some o → b ≠ p → H' b = some o) → H' p = some (.ins (He.ga K "Plan") dx (("flat", .ref fl) :: rest)) → H' fl = some (.lst []) → Q .non H'
def spNamed0 : Sp := fun vs H Q _ => ∃ r, vs = [.ref r] ∧ H r = some (.lst []) ∧ ∀ (H' : Hp) (d a b c : Addr), Same H H' → H' d = some (.dK [(.inr "labels", .ref a), (.inr "slots", .ref b), (.inr "gates", .ref c)]) → H' a = some (.lst []) → H' b = some (.lst []) → H' c = some (.lst []) → H d = none → Q (.ref d) H'
def spSizes0 (K : PySem.W.Frag) : Sp := fun vs H Q _ => ∃ (p dx fl d a b c : Addr) (rest : List (Str × V)), vs = [.ref p, .ref d] ∧ H p = some (.ins (He.ga K "Plan") dx (("flat", .ref fl) :: rest)) ∧ H fl = some (.lst []) ∧
  H d = some (.dK [(.inr "labels", .ref a), (.inr "slots", .ref b), (.inr "gates", .ref c)]) ∧ H a = some (.lst []) ∧ H b = some (.lst []) ∧ H c = some (.lst []) ∧ Q .non H
section
variable {P : Program} {w : World} {K : PySem.W.Frag} {mg : Str → Option Value} {base : Heap}
theorem ok_are_words {f : Addr} {fd : FuncData} (F : FnP K "are_words" "are_words" s_are_words f fd) (T : Tx w K mg) (G_is_word : Def P w K mg base CX0 1 "is_word" p_is_word (spIsWord K)) : FnOk P w K mg base CX0 2 f fd p_are_words (spGoWords K) := by
  refine F.ok sc_are_words (fun vs H Q E h => ?_) (fun cdv A outer s H vs Q E hr h => ?_)
  · obtain ⟨a, rfl, _⟩ := h
    rfl
  · obtain ⟨a, rfl, ha, k⟩ := h
    refine ⟨_, PSs.nox (pss_cons (ps_if (PW.pt (pw_or (pt_not (pt_val (pe_callB call_isi (by rfl) T.b_isinstance (by decide +kernel) (pa_cons (pv 0) (pa_cons (pe_bltn (v := .ty "tuple") (u := .type "tuple") (by rfl) T.b_tuple (by decide +kernel) rfl) pa_nil))))) (pw_or1 (pt_not (pt_chain op_le op_le pe_int (pe_callB call_len_seq (by rfl) T.b_len PySem.boot_len (pa_cons (pv 0) pa_nil)) (pv 1)))))) (pss_one (ps_ret pe_bl)) pss_nil)
      (pss_one (ps_ret (pe_and (pe_callB (cr_all rfl) (by rfl) T.b_all (by decide +kernel) (pa_cons (pe_lc (own := [("word", 2)]) (g := (gName 2)) (by rfl) sc_are_words.nd (pi_tup (pv 0)) (blkOk_by (N := n_are_words) (sc := defScope s_are_words) (by decide +kernel)) (fun _ _ _ _ _ => (pg_name (i := 2) sc_are_words.nd rfl (.inl rfl))) (fun _ _ _ _ _ => pts_nil) (fun _ _ _ _ _ => (pe_fn G_is_word (hr.mono (by decide)) (by rfl) pass0 (pa_cons (pv 2) pa_nil)))) pa_nil)) (pe_one (pe_cmpR op_eq (pe_lenSet rfl (by rfl) T.b_len (by rfl) T.b_set (pv 0)) (pe_callB call_len_seq (by rfl) T.b_len PySem.boot_len (pa_cons (pv 0) pa_nil)) (nomark _))))))), ?_⟩
    refine ⟨_, rfl, .ref a, .ty "tuple", _, _, true, rfl, .ty _, tyT ha, kit_ty (by decide +kernel), _, rfl, ?_⟩
    refine iteF ?_
    refine ⟨_, rfl, a, _, rfl, .inr ha, _, _, rfl, rfl, _, rfl, ?_⟩
    refine iteT' (by rfl) ⟨_, rfl, _, _, rfl, rfl, _, rfl, ?_⟩
    refine iteF' (by rfl) ?_
    refine ⟨_, rfl, a, rfl, ⟨_, ha⟩, fun D nD => ?_⟩
    refine lc_tup (K := K) (a := a) (xs := gos) (fun i H' => Same H H' ∧ H' D = some (.lst ((gos.take i).map fun _ => V.bl true))) ⟨Same.new nD, upd_same⟩ (fun i H' _ q => sameT q.1 ha) (fun i x H' hi q => ?_) (fun H' q => ?_)
    · obtain ⟨S, hD⟩ := q
      have hi0 : i = 0 ∧ x = .str "go" := by
        cases i with
        | zero => exact ⟨rfl, (Option.some.inj hi).symm⟩
        | succ i => simp [gos] at hi
      obtain ⟨rfl, rfl⟩ := hi0
      refine ⟨rfl, ?_⟩
      refine tYes_ ?_
      refine iteT ?_
      refine ⟨_, rfl, .inl ⟨_, rfl, by decide +kernel, fun H2 S2 => ?_⟩⟩
      have hg : isWord "go" = true := by decide +kernel
      rw [hg]
      refine ⟨_, S2 _ _ hD, by decide +kernel, fun b o hb => ?_, upd_same⟩
      rw [upd_ne (ne_of_none hb nD)]
      exact S2 _ _ (S _ _ hb)
    · obtain ⟨S, hD⟩ := q
      refine ⟨D, [true], rfl, SqL.of hD, _, rfl, ?_⟩
      refine iteT' (by rfl) ?_
      refine ⟨_, rfl, a, ["go"], rfl, .inr (sameT S ha), by decide, ?_⟩
      refine ⟨_, rfl, a, _, rfl, .inr (sameT S ha), rfl, ?_⟩
      exact k _ S
theorem ok_checked_table {f : Addr} {fd : FuncData} (F : FnP K "checked_table" "checked_table" s_checked_table f fd) (T : Tx w K mg) : FnOk P w K mg base CX0 1 f fd p_checked_table spNoTable := by
  refine F.ok sc_checked_table (fun vs H Q E h => ?_) (fun cdv A outer s H vs Q E hr h => ?_)
  · obtain ⟨z, i, rfl, _⟩ := h
    rfl
  · obtain ⟨z, i, rfl, k⟩ := h
    refine ⟨_, PSs.nox (pss_cons (ps_if (pt_cmpR op_isN (pv 0) pe_non (nomark _)) (pss_one (ps_ret pe_dnewK)) pss_nil)
      (pss_cons ps_never
      (pss_cons ps_never
      (pss_one ps_never)))), ?_⟩
    refine ⟨_, rfl, rfl, _, rfl, ?_⟩
    refine iteT ?_
    intro d nd
    exact k d nd
theorem ok_rc {f : Addr} {fd : FuncData} (F : FnP K "__init__" "RowCheck.__init__" s_RowCheck___init__ f fd) (T : Tx w K mg) : FnOk P w K mg base CX0 1 f fd p_RowCheck___init__ (spRC K) := by
  refine F.ok sc_RowCheck___init__ (fun vs H Q E h => ?_) (fun cdv A outer s H vs Q E hr h => ?_)
  · obtain ⟨p, dx, v, w, b, rfl, _⟩ := h
    rfl
  · obtain ⟨p, dx, v, w, b, rfl, hp, k⟩ := h
    refine ⟨_, PSs.nox (pss_cons (ps_fld (pv 0) (pv 1) rfl)
      (pss_cons (ps_fld (pv 0) (pv 2) rfl)
      (pss_cons (ps_fld (pv 0) (pv 3) rfl)
      (pss_cons (ps_fld (pv 0) pe_dnewK rfl)
      (pss_one (ps_fld (pv 0) pe_dnewK rfl)))))), ?_⟩
    refine ⟨_, rfl, _, rfl, p, _, dx, [], rfl, hp, T.c_RowCheck, T.n_RowCheck_ask_table, (by show 0 < 1000; decide), ?_⟩
    refine ⟨_, rfl, _, rfl, p, _, dx, _, rfl, upd_same, T.c_RowCheck, T.n_RowCheck_signal_table, (by show 1 < 1000; decide), ?_⟩
    refine ⟨_, rfl, _, rfl, p, _, dx, _, rfl, upd_same, T.c_RowCheck, T.n_RowCheck_with_edits, (by show 2 < 1000; decide), ?_⟩
    intro d nd
    have npd : p ≠ d := fun z => by rw [← z, upd_same] at nd; cases nd
    refine ⟨_, rfl, p, _, dx, _, rfl, (by rw [upd_ne npd]; exact upd_same), T.c_RowCheck, T.n_RowCheck_seen_edits, (by show 3 < 1000; decide), ?_⟩
    intro d2 nd2
    have npd2 : p ≠ d2 := fun z => by rw [← z, upd_same] at nd2; cases nd2
    refine ⟨_, rfl, p, _, dx, _, rfl, (by rw [upd_ne npd2]; exact upd_same), T.c_RowCheck, T.n_RowCheck_seen_gates, (by show 4 < 1000; decide), ?_⟩
    refine k _ d d2 (fun b o hb nb => ?_) upd_same
    have n1 : b ≠ d := fun z => by rw [← z, upd_ne nb, upd_ne nb, upd_ne nb, hb] at nd; cases nd
    have n2 : b ≠ d2 := fun z => by rw [← z, upd_ne nb, upd_ne n1, upd_ne nb, upd_ne nb, upd_ne nb, hb] at nd2; cases nd2
    rw [upd_ne nb, upd_ne n2, upd_ne nb, upd_ne n1, upd_ne nb, upd_ne nb, upd_ne nb]
    exact hb
end
end K13

set_option Elab.async false
set_option maxRecDepth 100000
set_option maxHeartbeats 4000000
set_option linter.all false
namespace K13
open PySem PySem.Spec PyProof.Rows L2
section
variable {P : Program} {w : World} {K : PySem.W.Frag} {mg : Str → Option Value} {base : Heap}
theorem ok_list0 {f : Addr} {fd : FuncData} (F : FnP K "check_list" "RowCheck.check_list" s_RowCheck_check_list f fd) (T : Tx w K mg) : FnOk P w K mg base CX0 1 f fd p_RowCheck_check_list (spList0 K) := by
  refine F.ok sc_RowCheck_check_list (fun vs H Q E h => ?_) (fun cdv A outer s H vs Q E hr h => ?_)
  · obtain ⟨p, r, v, b, rfl, _⟩ := h
    rfl
  · obtain ⟨p, r, v, b, rfl, hl, k⟩ := h
    refine ⟨_, PSs.nox (pss_one (ps_for PassesOwn.never rfl (pi_enum (by rfl) T.b_enumerate (pa_cons (pv 1) pa_nil)) (pg_tup (by rfl) (pgs_cons (pg_name (i := 4) sc_RowCheck_check_list.nd rfl (.inl rfl)) (pgs_cons (pg_name (i := 5) sc_RowCheck_check_list.nd rfl (.inl rfl)) pgs_nil))) (pss_cons ps_never
      (pss_cons ps_never
      (pss_cons ps_never
      (pss_one ps_never)))))), ?_⟩
    refine ⟨_, rfl, r, _, rfl, SqL.of hl, ?_⟩
    refine for_it (walk_enum (K := K) (a := r) (xs := [])) (fun i σ H2 => H2 = H) rfl (fun i σ H2 _ q => q ▸ SqL.of hl) (fun i x σ H2 H3 hi q y => absurd hi (Nat.not_lt_zero _)) (fun σ H2 q => ?_)
    subst q
    exact k _ (Same.refl _)
theorem ok_lay0 {f : Addr} {fd : FuncData} (F : FnP K "lay_list" "Plan.lay_list" s_Plan_lay_list f fd) (T : Tx w K mg) : FnOk P w K mg base CX0 1 f fd p_Plan_lay_list spLay0 := by
  refine F.ok sc_Plan_lay_list (fun vs H Q E h => ?_) (fun cdv A outer s H vs Q E hr h => ?_)
  · obtain ⟨p, r, v, w, x, rfl, _⟩ := h
    rfl
  · obtain ⟨p, r, v, w, x, rfl, hl, k⟩ := h
    refine ⟨_, PSs.nox (pss_one (ps_for PassesOwn.never rfl (pi_enum (by rfl) T.b_enumerate (pa_cons (pv 1) pa_nil)) (pg_tup (by rfl) (pgs_cons (pg_name (i := 5) sc_Plan_lay_list.nd rfl (.inl rfl)) (pgs_cons (pg_name (i := 6) sc_Plan_lay_list.nd rfl (.inl rfl)) pgs_nil))) (pss_cons ps_never
      (pss_cons ps_never
      (pss_one ps_never))))), ?_⟩
    refine ⟨_, rfl, r, _, rfl, SqL.of hl, ?_⟩
    refine for_it (walk_enum (K := K) (a := r) (xs := [])) (fun i σ H2 => H2 = H) rfl (fun i σ H2 _ q => q ▸ SqL.of hl) (fun i x σ H2 H3 hi q y => absurd hi (Nat.not_lt_zero _)) (fun σ H2 q => ?_)
    subst q
    exact k _ (Same.refl _)
theorem ok_rows0 {f : Addr} {fd : FuncData} (F : FnP K "check_rows" "RowCheck.check_rows" s_RowCheck_check_rows f fd) (T : Tx w K mg) (M_check_list : MDef P w K mg base CX0 1 (He.ga K "RowCheck") "check_list" p_RowCheck_check_list (spList0 K)) :
    FnOk P w K mg base CX0 2 f fd p_RowCheck_check_rows (spRows0 K) := by
  refine F.ok sc_RowCheck_check_rows (fun vs H Q E h => ?_) (fun cdv A outer s H vs Q E hr h => ?_)
  · obtain ⟨p, r, dx, d, e, v, w, b, rfl, _⟩ := h
    rfl
  · obtain ⟨p, r, dx, d, e, v, w, b, rfl, hp, hl, k⟩ := h
    refine ⟨_, PSs.nox (pss_cons (ps_if (pt_not (pt_val (pe_callB call_isi (by rfl) T.b_isinstance (by decide +kernel) (pa_cons (pv 1) (pa_cons (pe_bltn (v := .ty "list") (u := .type "list") (by rfl) T.b_list (by decide +kernel) rfl) pa_nil))))) (pss_one ps_never) pss_nil)
      (pss_one (ps_expr (pe_mth M_check_list (hr.mono (by decide)) pass0 (pv 0) (pa_cons (pv 1) (pa_cons (pe_tup pa_nil) (pa_cons pe_bl pa_nil))))))), ?_⟩
    refine ⟨_, rfl, .ref r, .ty "list", _, _, true, rfl, .ty _, tyL (SqL.of hl), kit_ty (by decide +kernel), _, rfl, ?_⟩
    refine iteF ?_
    refine ⟨_, rfl, p, dx, _, rfl, hp, rfl, _, rfl, by show 0 ≤ sizeLine; decide, fun q nq => ?_⟩
    refine ⟨p, r, .ref q, false, rfl, by rw [upd_ne (ne_of_none hl nq)]; exact hl, fun H' S => ?_⟩
    exact k H' ((Same.new nq).trans S)
theorem ok_copied0 {f : Addr} {fd : FuncData} (F : FnP K "copied" "copied" s_copied f fd) (T : Tx w K mg) : FnOk P w K mg base CX0 1 f fd p_copied spCopied0 := by
  refine F.ok sc_copied (fun vs H Q E h => ?_) (fun cdv A outer s H vs Q E hr h => ?_)
  · obtain ⟨r, rfl, _⟩ := h
    rfl
  · obtain ⟨r, rfl, hl, k⟩ := h
    refine ⟨_, PSs.nox (pss_one (ps_ret (pe_lc (own := [("row", 1)]) (g := gName 1) (by rfl) sc_copied.nd (pi_list (pv 0)) (blkOk_by (N := n_copied) (sc := defScope s_copied) (by decide +kernel)) (fun _ _ _ _ _ => (pg_name (i := 1) sc_copied.nd rfl (.inl rfl))) (fun _ _ _ _ _ => pts_nil) (fun _ _ _ _ _ => pe_never)))), ?_⟩
    refine ⟨_, rfl, r, rfl, ⟨_, SqL.of hl⟩, fun D nD => ?_⟩
    refine lc_list (K := K) (a := r) (xs := []) (g := gName 1) (tt := tYes) (te := fun _ _ _ => False) (fun i H2 => H2 = upd H D (.lst [])) rfl (fun i H2 _ q => SqL.of (by rw [q, upd_ne (ne_of_none hl nD)]; exact hl)) (fun i x H2 hi q => by simp at hi) (fun H2 q => ?_)
    subst q
    exact k D nD
theorem ok_named0 {f : Addr} {fd : FuncData} (F : FnP K "named_in" "named_in" s_named_in f fd) (T : Tx w K mg) : FnOk P w K mg base CX0 1 f fd p_named_in spNamed0 := by
  refine F.ok sc_named_in (fun vs H Q E h => ?_) (fun cdv A outer s H vs Q E hr h => ?_)
  · obtain ⟨r, rfl, _⟩ := h
    rfl
  · obtain ⟨r, rfl, hl, k⟩ := h
    refine ⟨_, PSs.nox (pss_cons (ps_set (i := 1) sc_named_in.nd rfl (.inl rfl) (pe_callB (cr_sortedSet rfl) (by rfl) T.b_sorted (by decide +kernel) (pa_cons (pe_scNil (own := [("row", 4), ("word", 5)]) rfl sc_named_in.nd (pi_list (pv 0)) (blkOk_by (N := n_named_in) (sc := defScope s_named_in) (by decide +kernel))) pa_nil)))
 (pss_cons (ps_set (i := 2) sc_named_in.nd rfl (.inl rfl) (pe_callB (cr_sortedSet rfl) (by rfl) T.b_sorted (by decide +kernel) (pa_cons (pe_scNil (own := [("row", 4), ("word", 5)]) rfl sc_named_in.nd (pi_list (pv 0)) (blkOk_by (N := n_named_in) (sc := defScope s_named_in) (by decide +kernel))) pa_nil)))
 (pss_cons (ps_set (i := 3) sc_named_in.nd rfl (.inl rfl) (pe_callB (cr_sortedSet rfl) (by rfl) T.b_sorted (by decide +kernel) (pa_cons (pe_scNil (own := [("row", 4), ("word", 5)]) rfl sc_named_in.nd (pi_list (pv 0)) (blkOk_by (N := n_named_in) (sc := defScope s_named_in) (by decide +kernel))) pa_nil)))
 (pss_one (ps_ret (pe_disp (pps_cons pe_str (pv 1) (pps_cons pe_str (pe_lc (own := [("slot", 6)]) (g := gName 6) (by rfl) sc_named_in.nd (pi_list (pv 2)) (blkOk_by (N := n_named_in) (sc := defScope s_named_in) (by decide +kernel)) (fun _ _ _ _ _ => (pg_name (i := 6) sc_named_in.nd rfl (.inl rfl))) (fun _ _ _ _ _ => (pts_one pt_never)) (fun _ _ _ _ _ => pe_never)) (pps_cons pe_str (pv 3) pps_nil))) (by rfl) (by rfl) (fun z => by cases z) (by decide))))))), ?_⟩
    have empty : ∀ ns : List Int, (∀ k : Int, k ∈ ns ↔ (fun _ : Int => false) k = true) → ns = [] := fun ns h => by
      cases ns with
      | nil => rfl
      | cons a l => simpa using (h a).mp List.mem_cons_self
    have stop : ∀ {H' : Hp}, H' r = some (.lst []) → (Itl K r).stop 0 H' := fun h => ⟨[], SqL.of h, Nat.le_refl _⟩
    refine ⟨_, rfl, r, rfl, ⟨_, SqL.of hl⟩, fun D1 n1 => ⟨stop (by rw [upd_ne (ne_of_none hl n1)]; exact hl), ?_⟩⟩
    refine ⟨D1, _, 0, rfl, upd_same, by decide, fun ns1 a1 _ hn1 _ m1 => ?_⟩
    rw [empty ns1 hn1]
    have S1 : Same H (upd (upd H D1 (SetO (cxOf CX0 P w K mg base n_named_in "named_in" (defScope s_named_in) f cdv A outer s H E).nox.w D1 (fun _ => false) 0)) a1 (.lst (List.map V.int []))) := (Same.new n1).trans (Same.new m1)
    have h1 : upd (upd H D1 (SetO (cxOf CX0 P w K mg base n_named_in "named_in" (defScope s_named_in) f cdv A outer s H E).nox.w D1 (fun _ => false) 0)) a1 (.lst (List.map V.int [])) a1 = some (.lst []) := upd_same
    generalize upd (upd H D1 (SetO (cxOf CX0 P w K mg base n_named_in "named_in" (defScope s_named_in) f cdv A outer s H E).nox.w D1 (fun _ => false) 0)) a1 (.lst (List.map V.int [])) = G1 at S1 h1 ⊢
    have hl1 := S1 _ _ hl
    refine ⟨_, rfl, r, rfl, ⟨_, SqL.of hl1⟩, fun D2 n2 => ⟨stop (by rw [upd_ne (ne_of_none hl1 n2)]; exact hl1), ?_⟩⟩
    refine ⟨D2, _, 0, rfl, upd_same, by decide, fun ns2 a2 _ hn2 _ m2 => ?_⟩
    rw [empty ns2 hn2]
    have S2 : Same G1 (upd (upd G1 D2 (SetO (cxOf CX0 P w K mg base n_named_in "named_in" (defScope s_named_in) f cdv A outer s H E).nox.w D2 (fun _ => false) 0)) a2 (.lst (List.map V.int []))) := (Same.new n2).trans (Same.new m2)
    have h2 : upd (upd G1 D2 (SetO (cxOf CX0 P w K mg base n_named_in "named_in" (defScope s_named_in) f cdv A outer s H E).nox.w D2 (fun _ => false) 0)) a2 (.lst (List.map V.int [])) a2 = some (.lst []) := upd_same
    generalize upd (upd G1 D2 (SetO (cxOf CX0 P w K mg base n_named_in "named_in" (defScope s_named_in) f cdv A outer s H E).nox.w D2 (fun _ => false) 0)) a2 (.lst (List.map V.int [])) = G2 at S2 h2 ⊢
    have hl2 := S2 _ _ hl1
    refine ⟨_, rfl, r, rfl, ⟨_, SqL.of hl2⟩, fun D3 n3 => ⟨stop (by rw [upd_ne (ne_of_none hl2 n3)]; exact hl2), ?_⟩⟩
    refine ⟨D3, _, 0, rfl, upd_same, by decide, fun ns3 a3 _ hn3 _ m3 => ?_⟩
    rw [empty ns3 hn3]
    have S3 : Same G2 (upd (upd G2 D3 (SetO (cxOf CX0 P w K mg base n_named_in "named_in" (defScope s_named_in) f cdv A outer s H E).nox.w D3 (fun _ => false) 0)) a3 (.lst (List.map V.int []))) := (Same.new n3).trans (Same.new m3)
    have h3 : upd (upd G2 D3 (SetO (cxOf CX0 P w K mg base n_named_in "named_in" (defScope s_named_in) f cdv A outer s H E).nox.w D3 (fun _ => false) 0)) a3 (.lst (List.map V.int [])) a3 = some (.lst []) := upd_same
    generalize upd (upd G2 D3 (SetO (cxOf CX0 P w K mg base n_named_in "named_in" (defScope s_named_in) f cdv A outer s H E).nox.w D3 (fun _ => false) 0)) a3 (.lst (List.map V.int [])) = G3 at S3 h3 ⊢
    have hl3 := S3 _ _ hl2
    have S := (S1.trans S2).trans S3
    have h1' := S3 _ _ (S2 _ _ h1)
    have h2' := S3 _ _ h2
    intro p np
    have Sp : Same G3 (upd G3 p (.dK [])) := Same.new np
    have hp : upd G3 p (.dK []) p = some (.dK []) := upd_same
    have q1 := Sp _ _ h1'
    have q2 := Sp _ _ h2'
    have q3 := Sp _ _ h3
    have hp0 : H p = none := S.free np
    have S4 := S.trans Sp
    generalize upd G3 p (.dK []) = G4 at Sp hp q1 q2 q3 S4
    refine ⟨_, rfl, _, rfl, a2, rfl, ⟨_, SqL.of q2⟩, fun D nD => ?_⟩
    have pD : p ≠ D := ne_of_none hp nD
    refine lc_list (K := K) (a := a2) (xs := []) (g := gName 6) (tt := fun _ _ _ => False) (te := fun _ _ _ => False) (fun i H2 => H2 = upd G4 D (.lst [])) rfl (fun i H2 _ q => SqL.of (by rw [q, upd_ne (ne_of_none q2 nD)]; exact q2)) (fun i x H2 hi q => by simp at hi) (fun H2 q => ?_)
    subst q
    refine ⟨_, rfl, by rw [upd_ne pD]; exact hp, [(.inr "labels", .ref a1), (.inr "slots", .ref D), (.inr "gates", .ref a3)], rfl, by show 3 ≤ 15; decide, ?_⟩
    refine k _ p a1 D a3 (fun b o hb => ?_) (by rw [upd_same]; rfl) ?_ ?_ ?_ hp0
    · rw [upd_ne (ne_of_none hb hp0), upd_ne (ne_of_none (S4 _ _ hb) nD)]
      exact S4 _ _ hb
    · rw [upd_ne (ne_of q1 hp (by intro z; cases z)), upd_ne (ne_of_none q1 nD)]
      exact q1
    · rw [upd_ne pD.symm, upd_same]
    · rw [upd_ne (ne_of q3 hp (by intro z; cases z)), upd_ne (ne_of_none q3 nD)]
      exact q3
end
end K13

set_option Elab.async false
set_option maxRecDepth 100000
set_option maxHeartbeats 4000000
set_option linter.all false
namespace K13
open PySem PySem.Spec PyProof.Rows L2
def planF (a b c d e f : Addr) : List (Str × V) := [("flat", .ref a), ("places", .ref b), ("behind", .ref c), ("entries", .ref d), ("sides", .ref e), ("starts", .ref f)]
/-- all but the object at p stands -/
def Sv (H H' : Hp) (p : Addr) : Prop := ∀ b o, H b = some o → b ≠ p → H' b = some o
theorem Sv.same {H H' H'' : Hp} {p : Addr} (h : Sv H H' p) (s : Same H' H'') : Sv H H'' p := fun b o hb nb => s _ _ (h b o hb nb)
theorem Sv.own {H H' : Hp} {p : Addr} {u : HO} (h : Sv H H' p) : Sv H (upd H' p u) p := fun b o hb nb => by rw [upd_ne nb]; exact h b o hb nb
theorem Sv.trans {H H' H'' : Hp} {p : Addr} (h : Sv H H' p) (s : Sv H' H'' p) : Sv H H'' p := fun b o hb nb => s _ _ (h b o hb nb) nb
section
variable {P : Program} {w : World} {K : PySem.W.Frag} {mg : Str → Option Value} {base : Heap}
theorem ok_plan {f : Addr} {fd : FuncData} (F : FnP K "__init__" "Plan.__init__" s_Plan___init__ f fd) (T : Tx w K mg) (M_lay_list : MDef P w K mg base CX0 1 (He.ga K "Plan") "lay_list" p_Plan_lay_list spLay0) :
    FnOk P w K mg base CX0 2 f fd p_Plan___init__ (spPlan K) := by
  refine F.ok sc_Plan___init__ (fun vs H Q E h => ?_) (fun cdv A outer s H vs Q E hr h => ?_)
  · obtain ⟨p, dx, r, rfl, _⟩ := h
    rfl
  · obtain ⟨p, dx, r, rfl, hp, hl, k⟩ := h
    obtain ⟨tF, mFINISH⟩ := T.m_FINISH
    have rp : r ≠ p := ne_of hl hp (by intro z; cases z)
    refine ⟨_, PSs.nox (pss_cons (ps_fld (pv 0) (pe_lst pa_nil) rfl)
      (pss_cons (ps_fld (pv 0) (pe_lst pa_nil) rfl)
      (pss_cons (ps_fld (pv 0) (pe_lst pa_nil) rfl)
      (pss_cons (ps_fld (pv 0) (pe_lst pa_nil) rfl)
      (pss_cons (ps_fld (pv 0) (pe_lst pa_nil) rfl)
      (pss_cons (ps_fld (pv 0) (pe_lst (pa_cons (pe_ifExp (pt_cmpR op_eq (pe_callB call_len_seq (by rfl) T.b_len PySem.boot_len (pa_cons (pv 1) pa_nil)) pe_int (nomark _)) (pe_glob (by rfl) mFINISH (show RelV (.int (-2)) _ from ⟨_, rfl⟩)) pe_int) pa_nil)) rfl)
      (pss_cons (ps_expr (pe_mth M_lay_list (hr.mono (by decide)) pass0 (pv 0) (pa_cons (pv 1) (pa_cons (pe_tup pa_nil) (pa_cons (pe_glob (by rfl) mFINISH (show RelV (.int (-2)) _ from ⟨_, rfl⟩)) (pa_cons (pe_glob (by rfl) mFINISH (show RelV (.int (-2)) _ from ⟨_, rfl⟩)) pa_nil))))))
      (pss_one (ps_fld (pv 0) (pe_dc (own := [("number", 2), ("path", 3)]) (g := (gTup K 2 (gCons (gName 2) (gCons (gName 3) gNil)))) rfl sc_Plan___init__.nd (pi_enum (by rfl) T.b_enumerate (pa_cons (pe_fld (pv 0) rfl) pa_nil)) (blkOk_by (N := n_Plan___init__) (sc := defScope s_Plan___init__) (by decide +kernel)) (fun _ _ _ _ _ => (pg_tup (by rfl) (pgs_cons (pg_name (i := 2) sc_Plan___init__.nd rfl (.inl rfl)) (pgs_cons (pg_name (i := 3) sc_Plan___init__.nd rfl (.inl rfl)) pgs_nil)))) (fun _ _ _ _ _ => pts_nil) (fun _ _ _ _ _ => pe_never) (fun _ _ _ _ _ => pe_never)) rfl))))))))), ?_⟩
    have sv : Sv H H p := fun b o hb _ => hb
    refine ⟨by show 0 ≤ sizeLine; decide, fun a1 n1 => ?_⟩
    have p1 : p ≠ a1 := ne_of_none hp n1
    refine ⟨_, rfl, p, _, dx, _, rfl, (by rw [upd_ne p1]; exact hp), T.c_Plan, T.n_Plan_flat, (by show 0 < 1000; decide), ?_⟩
    have sv1 : Sv H (upd (upd H a1 (.lst [])) p (.ins (He.ga K "Plan") dx (putF "flat" (.ref a1) []))) p := (sv.same (Same.new n1)).own
    have L1 : upd (upd H a1 (.lst [])) p (.ins (He.ga K "Plan") dx (putF "flat" (.ref a1) [])) a1 = some (.lst []) := by rw [upd_ne p1.symm]; exact upd_same
    have hp1 : upd (upd H a1 (.lst [])) p (.ins (He.ga K "Plan") dx (putF "flat" (.ref a1) [])) p = some (.ins (He.ga K "Plan") dx (putF "flat" (.ref a1) [])) := upd_same
    have step1 : Sv H (upd (upd H a1 (.lst [])) p (.ins (He.ga K "Plan") dx (putF "flat" (.ref a1) []))) p := Sv.own (fun b o hb _ => Same.new n1 b o hb)
    generalize upd (upd H a1 (.lst [])) p (.ins (He.ga K "Plan") dx (putF "flat" (.ref a1) [])) = G1 at sv1 L1 hp1 step1 ⊢
    clear sv hp
    have sv := sv1
    have hp : G1 p = some (.ins (He.ga K "Plan") dx (putF "flat" (.ref a1) [])) := hp1
    refine ⟨by show 0 ≤ sizeLine; decide, fun a2 n2 => ?_⟩
    have p2 : p ≠ a2 := ne_of_none hp n2
    refine ⟨_, rfl, p, _, dx, _, rfl, (by rw [upd_ne p2]; exact hp), T.c_Plan, T.n_Plan_places, (by show 1 < 1000; decide), ?_⟩
    have sv2 : Sv H (upd (upd G1 a2 (.lst [])) p (.ins (He.ga K "Plan") dx (putF "places" (.ref a2) (putF "flat" (.ref a1) [])))) p := (sv.same (Same.new n2)).own
    have L2 : upd (upd G1 a2 (.lst [])) p (.ins (He.ga K "Plan") dx (putF "places" (.ref a2) (putF "flat" (.ref a1) []))) a2 = some (.lst []) := by rw [upd_ne p2.symm]; exact upd_same
    have hp2 : upd (upd G1 a2 (.lst [])) p (.ins (He.ga K "Plan") dx (putF "places" (.ref a2) (putF "flat" (.ref a1) []))) p = some (.ins (He.ga K "Plan") dx (putF "places" (.ref a2) (putF "flat" (.ref a1) []))) := upd_same
    have step2 : Sv G1 (upd (upd G1 a2 (.lst [])) p (.ins (He.ga K "Plan") dx (putF "places" (.ref a2) (putF "flat" (.ref a1) [])))) p := Sv.own (fun b o hb _ => Same.new n2 b o hb)
    generalize upd (upd G1 a2 (.lst [])) p (.ins (He.ga K "Plan") dx (putF "places" (.ref a2) (putF "flat" (.ref a1) []))) = G2 at sv2 L2 hp2 step2 ⊢
    clear sv hp
    have sv := sv2
    have hp : G2 p = some (.ins (He.ga K "Plan") dx (putF "places" (.ref a2) (putF "flat" (.ref a1) []))) := hp2
    refine ⟨by show 0 ≤ sizeLine; decide, fun a3 n3 => ?_⟩
    have p3 : p ≠ a3 := ne_of_none hp n3
    refine ⟨_, rfl, p, _, dx, _, rfl, (by rw [upd_ne p3]; exact hp), T.c_Plan, T.n_Plan_behind, (by show 2 < 1000; decide), ?_⟩
    have sv3 : Sv H (upd (upd G2 a3 (.lst [])) p (.ins (He.ga K "Plan") dx (putF "behind" (.ref a3) (putF "places" (.ref a2) (putF "flat" (.ref a1) []))))) p := (sv.same (Same.new n3)).own
    have L3 : upd (upd G2 a3 (.lst [])) p (.ins (He.ga K "Plan") dx (putF "behind" (.ref a3) (putF "places" (.ref a2) (putF "flat" (.ref a1) [])))) a3 = some (.lst []) := by rw [upd_ne p3.symm]; exact upd_same
    have hp3 : upd (upd G2 a3 (.lst [])) p (.ins (He.ga K "Plan") dx (putF "behind" (.ref a3) (putF "places" (.ref a2) (putF "flat" (.ref a1) [])))) p = some (.ins (He.ga K "Plan") dx (putF "behind" (.ref a3) (putF "places" (.ref a2) (putF "flat" (.ref a1) [])))) := upd_same
    have step3 : Sv G2 (upd (upd G2 a3 (.lst [])) p (.ins (He.ga K "Plan") dx (putF "behind" (.ref a3) (putF "places" (.ref a2) (putF "flat" (.ref a1) []))))) p := Sv.own (fun b o hb _ => Same.new n3 b o hb)
    generalize upd (upd G2 a3 (.lst [])) p (.ins (He.ga K "Plan") dx (putF "behind" (.ref a3) (putF "places" (.ref a2) (putF "flat" (.ref a1) [])))) = G3 at sv3 L3 hp3 step3 ⊢
    clear sv hp
    have sv := sv3
    have hp : G3 p = some (.ins (He.ga K "Plan") dx (putF "behind" (.ref a3) (putF "places" (.ref a2) (putF "flat" (.ref a1) [])))) := hp3
    refine ⟨by show 0 ≤ sizeLine; decide, fun a4 n4 => ?_⟩
    have p4 : p ≠ a4 := ne_of_none hp n4
    refine ⟨_, rfl, p, _, dx, _, rfl, (by rw [upd_ne p4]; exact hp), T.c_Plan, T.n_Plan_entries, (by show 3 < 1000; decide), ?_⟩
    have sv4 : Sv H (upd (upd G3 a4 (.lst [])) p (.ins (He.ga K "Plan") dx (putF "entries" (.ref a4) (putF "behind" (.ref a3) (putF "places" (.ref a2) (putF "flat" (.ref a1) [])))))) p := (sv.same (Same.new n4)).own
    have L4 : upd (upd G3 a4 (.lst [])) p (.ins (He.ga K "Plan") dx (putF "entries" (.ref a4) (putF "behind" (.ref a3) (putF "places" (.ref a2) (putF "flat" (.ref a1) []))))) a4 = some (.lst []) := by rw [upd_ne p4.symm]; exact upd_same
    have hp4 : upd (upd G3 a4 (.lst [])) p (.ins (He.ga K "Plan") dx (putF "entries" (.ref a4) (putF "behind" (.ref a3) (putF "places" (.ref a2) (putF "flat" (.ref a1) []))))) p = some (.ins (He.ga K "Plan") dx (putF "entries" (.ref a4) (putF "behind" (.ref a3) (putF "places" (.ref a2) (putF "flat" (.ref a1) []))))) := upd_same
    have step4 : Sv G3 (upd (upd G3 a4 (.lst [])) p (.ins (He.ga K "Plan") dx (putF "entries" (.ref a4) (putF "behind" (.ref a3) (putF "places" (.ref a2) (putF "flat" (.ref a1) [])))))) p := Sv.own (fun b o hb _ => Same.new n4 b o hb)
    generalize upd (upd G3 a4 (.lst [])) p (.ins (He.ga K "Plan") dx (putF "entries" (.ref a4) (putF "behind" (.ref a3) (putF "places" (.ref a2) (putF "flat" (.ref a1) []))))) = G4 at sv4 L4 hp4 step4 ⊢
    clear sv hp
    have sv := sv4
    have hp : G4 p = some (.ins (He.ga K "Plan") dx (putF "entries" (.ref a4) (putF "behind" (.ref a3) (putF "places" (.ref a2) (putF "flat" (.ref a1) []))))) := hp4
    refine ⟨by show 0 ≤ sizeLine; decide, fun a5 n5 => ?_⟩
    have p5 : p ≠ a5 := ne_of_none hp n5
    refine ⟨_, rfl, p, _, dx, _, rfl, (by rw [upd_ne p5]; exact hp), T.c_Plan, T.n_Plan_sides, (by show 4 < 1000; decide), ?_⟩
    have sv5 : Sv H (upd (upd G4 a5 (.lst [])) p (.ins (He.ga K "Plan") dx (putF "sides" (.ref a5) (putF "entries" (.ref a4) (putF "behind" (.ref a3) (putF "places" (.ref a2) (putF "flat" (.ref a1) []))))))) p := (sv.same (Same.new n5)).own
    have L5 : upd (upd G4 a5 (.lst [])) p (.ins (He.ga K "Plan") dx (putF "sides" (.ref a5) (putF "entries" (.ref a4) (putF "behind" (.ref a3) (putF "places" (.ref a2) (putF "flat" (.ref a1) [])))))) a5 = some (.lst []) := by rw [upd_ne p5.symm]; exact upd_same
    have hp5 : upd (upd G4 a5 (.lst [])) p (.ins (He.ga K "Plan") dx (putF "sides" (.ref a5) (putF "entries" (.ref a4) (putF "behind" (.ref a3) (putF "places" (.ref a2) (putF "flat" (.ref a1) [])))))) p = some (.ins (He.ga K "Plan") dx (putF "sides" (.ref a5) (putF "entries" (.ref a4) (putF "behind" (.ref a3) (putF "places" (.ref a2) (putF "flat" (.ref a1) [])))))) := upd_same
    have step5 : Sv G4 (upd (upd G4 a5 (.lst [])) p (.ins (He.ga K "Plan") dx (putF "sides" (.ref a5) (putF "entries" (.ref a4) (putF "behind" (.ref a3) (putF "places" (.ref a2) (putF "flat" (.ref a1) []))))))) p := Sv.own (fun b o hb _ => Same.new n5 b o hb)
    generalize upd (upd G4 a5 (.lst [])) p (.ins (He.ga K "Plan") dx (putF "sides" (.ref a5) (putF "entries" (.ref a4) (putF "behind" (.ref a3) (putF "places" (.ref a2) (putF "flat" (.ref a1) [])))))) = G5 at sv5 L5 hp5 step5 ⊢
    clear sv hp
    have sv := sv5
    have hp : G5 p = some (.ins (He.ga K "Plan") dx (putF "sides" (.ref a5) (putF "entries" (.ref a4) (putF "behind" (.ref a3) (putF "places" (.ref a2) (putF "flat" (.ref a1) [])))))) := hp5
    have Lp : G5 a1 = some (.lst []) := step5 _ _ (step4 _ _ (step3 _ _ (step2 _ _ L1 p1.symm) p1.symm) p1.symm) p1.symm
    have Lq : G5 a2 = some (.lst []) := step5 _ _ (step4 _ _ (step3 _ _ L2 p2.symm) p2.symm) p2.symm
    have hl5 : G5 r = some (.lst []) := sv _ _ hl rp
    refine ⟨_, rfl, r, _, rfl, .inl (SqL.of hl5), rfl, _, rfl, ?_⟩
    refine iteT' (by rfl) ?_
    refine ⟨by show 1 ≤ sizeLine; decide, fun a6 n6 => ?_⟩
    have p6 : p ≠ a6 := ne_of_none hp n6
    refine ⟨_, rfl, p, _, dx, _, rfl, (by rw [upd_ne p6]; exact hp), T.c_Plan, T.n_Plan_starts, (by show 5 < 1000; decide), ?_⟩
    have hp6 : upd (upd G5 a6 (.lst [V.int (-2)])) p (.ins (He.ga K "Plan") dx (planF a1 a2 a3 a4 a5 a6)) p = some (.ins (He.ga K "Plan") dx (planF a1 a2 a3 a4 a5 a6)) := upd_same
    have step6 : Sv G5 (upd (upd G5 a6 (.lst [V.int (-2)])) p (.ins (He.ga K "Plan") dx (planF a1 a2 a3 a4 a5 a6))) p := Sv.own (fun b o hb _ => Same.new n6 b o hb)
    have eP : putF "starts" (.ref a6) (putF "sides" (.ref a5) (putF "entries" (.ref a4) (putF "behind" (.ref a3) (putF "places" (.ref a2) (putF "flat" (.ref a1) []))))) = planF a1 a2 a3 a4 a5 a6 := rfl
    rw [eP]
    generalize upd (upd G5 a6 (.lst [V.int (-2)])) p (.ins (He.ga K "Plan") dx (planF a1 a2 a3 a4 a5 a6)) = G6 at hp6 step6 ⊢
    have sv6 := sv.trans step6
    refine ⟨_, rfl, p, dx, _, rfl, hp6, rfl, _, rfl, by show 0 ≤ sizeLine; decide, fun q nq => ?_⟩
    refine ⟨p, r, _, _, _, rfl, ?_, fun G7 S7 => ?_⟩
    · rw [upd_ne (ne_of_none (sv6 _ _ hl rp) nq)]
      exact sv6 _ _ hl rp
    have S67 : Same G6 G7 := (Same.new nq).trans S7
    have hp7 := S67 _ _ hp6
    have Lq7 : G7 a2 = some (.lst []) := S67 _ _ (step6 _ _ Lq p2.symm)
    have Lp7 : G7 a1 = some (.lst []) := S67 _ _ (step6 _ _ Lp p1.symm)
    have sv7 : Sv H G7 p := sv6.same S67
    refine ⟨_, rfl, p, _, dx, _, .ref a2, rfl, hp7, T.c_Plan, T.n_Plan_places, rfl, a2, _, rfl, SqL.of Lq7, fun D nD => ?_⟩
    have pD : p ≠ D := ne_of_none hp7 nD
    refine ⟨fun i m H' => i = 0 ∧ H' = upd G7 D (.dK []), ⟨0, rfl, rfl⟩, ?_⟩
    rintro i m H' ⟨rfl, rfl⟩
    refine .inl ⟨⟨[], SqL.of (by rw [upd_ne (ne_of_none Lq7 nD)]; exact Lq7), Nat.le_refl _⟩, ?_⟩
    refine ⟨_, rfl, p, _, dx, _, rfl, (by rw [upd_ne pD]; exact hp7), T.c_Plan, T.n_Plan_numbers, (by show 6 < 1000; decide), ?_⟩
    refine k _ a1 _ ((sv7.same (Same.new nD)).own) upd_same ?_
    rw [upd_ne p1.symm, upd_ne (ne_of_none Lp7 nD)]
    exact Lp7
theorem ok_sizes0 {f : Addr} {fd : FuncData} (F : FnP K "check_sizes" "check_sizes" s_check_sizes f fd) (T : Tx w K mg) : FnOk P w K mg base CX0 1 f fd p_check_sizes (spSizes0 K) := by
  refine F.ok sc_check_sizes (fun vs H Q E h => ?_) (fun cdv A outer s H vs Q E hr h => ?_)
  · obtain ⟨p, dx, fl, d, a, b, c, rest, rfl, _⟩ := h
    rfl
  · obtain ⟨p, dx, fl, d, a, b, c, rest, rfl, hp, hf, hd, ha, hb, hc, k⟩ := h
    have hu := hu_of hr
    obtain ⟨t1, mMOST_ROWS⟩ := T.m_MOST_ROWS
    obtain ⟨t2, mMOST_LABELS⟩ := T.m_MOST_LABELS
    obtain ⟨t3, mMOST_SLOTS⟩ := T.m_MOST_SLOTS
    obtain ⟨t4, mMOST_GATES⟩ := T.m_MOST_GATES
    refine ⟨_, PSs.nox (pss_cons (ps_if (pt_cmpR op_gt (pe_callB call_len_seq (by rfl) T.b_len PySem.boot_len (pa_cons (pe_fld (pv 0) rfl) pa_nil)) (pe_glob (by rfl) mMOST_ROWS (show RelV (.int (60)) _ from ⟨_, rfl⟩)) (nomark _)) (pss_one ps_never) pss_nil)
      (pss_cons (ps_if (pt_cmpR op_gt (pe_callB call_len_seq (by rfl) T.b_len PySem.boot_len (pa_cons (pe_dget hu (pv 1) pe_str (fun _ _ => rfl)) pa_nil)) (pe_glob (by rfl) mMOST_LABELS (show RelV (.int (6)) _ from ⟨_, rfl⟩)) (nomark _)) (pss_one ps_never) pss_nil)
      (pss_cons (ps_if (pt_cmpR op_gt (pe_callB call_len_seq (by rfl) T.b_len PySem.boot_len (pa_cons (pe_dget hu (pv 1) pe_str (fun _ _ => rfl)) pa_nil)) (pe_glob (by rfl) mMOST_SLOTS (show RelV (.int (4)) _ from ⟨_, rfl⟩)) (nomark _)) (pss_one ps_never) pss_nil)
      (pss_one (ps_if (pt_cmpR op_gt (pe_callB call_len_seq (by rfl) T.b_len PySem.boot_len (pa_cons (pe_dget hu (pv 1) pe_str (fun _ _ => rfl)) pa_nil)) (pe_glob (by rfl) mMOST_GATES (show RelV (.int (8)) _ from ⟨_, rfl⟩)) (nomark _)) (pss_one ps_never) pss_nil))))), ?_⟩
    refine ⟨_, rfl, p, _, dx, _, _, rfl, hp, T.c_Plan, T.n_Plan_flat, rfl, fl, _, rfl, .inl (SqL.of hf), _, _, rfl, rfl, _, rfl, ?_⟩
    refine iteF' (by rfl) ?_
    refine ⟨_, rfl, d, _, rfl, (show DGet H d (.str "labels") (some (.ref a)) from DGet.k (k := .inr "labels") hd), a, _, rfl, .inl (SqL.of ha), _, _, rfl, rfl, _, rfl, ?_⟩
    refine iteF' (by rfl) ?_
    refine ⟨_, rfl, d, _, rfl, (show DGet H d (.str "slots") (some (.ref b)) from DGet.k (k := .inr "slots") hd), b, _, rfl, .inl (SqL.of hb), _, _, rfl, rfl, _, rfl, ?_⟩
    refine iteF' (by rfl) ?_
    refine ⟨_, rfl, d, _, rfl, (show DGet H d (.str "gates") (some (.ref c)) from DGet.k (k := .inr "gates") hd), c, _, rfl, .inl (SqL.of hc), _, _, rfl, rfl, _, rfl, ?_⟩
    refine iteF' (by rfl) ?_
    exact k
/-- made: an object of its class, nothing else is changed -/
def spDraft (K : PySem.W.Frag) : Sp := fun vs H Q _ => ∃ (p dx r t : Addr), vs = [.ref p, .ref r, .non, .non, .ref t, .bl false] ∧ H p = some (.ins (He.ga K "Program") dx []) ∧ H r = some (.lst []) ∧ SqT K H t gos ∧
  ∀ (H' : Hp) (fs : List (Str × V)), Sv H H' p → H' p = some (.ins (He.ga K "Program") dx fs) → Q .non H'
def spProg (K : PySem.W.Frag) : Sp := fun vs H Q _ => ∃ (p dx r t : Addr), vs = [.ref p, .ref r, .non, .non, .ref t] ∧ H p = some (.ins (He.ga K "Program") dx []) ∧ H r = some (.lst []) ∧ SqT K H t gos ∧
  ∀ (H' : Hp) (fs : List (Str × V)), Sv H H' p → H' p = some (.ins (He.ga K "Program") dx fs) → Q .non H'
theorem ok_prog {f : Addr} {fd : FuncData} {kws : List (Str × V)} (F : FunD K "__init__" "Program.__init__" (defArgs s_Program___init__) (defBody s_Program___init__) (defScope s_Program___init__) [] kws f fd) (T : Tx w K mg)
    (C_Draft : CFun P w K mg base CX0 4 "Draft" (He.ga K "Draft") "__init__" p_Draft___init__ (spDraft K)) : FnOk P w K mg base CX0 5 f fd p_Program___init__ (spProg K) := by
  refine F.ok sc_Program___init__ (fun vs H Q E h => ?_) (fun cdv A outer s H vs Q E hr h => ?_)
  · obtain ⟨p, dx, r, t, rfl, _⟩ := h
    rfl
  · obtain ⟨p, dx, r, t, rfl, hp, hl, ht, k⟩ := h
    refine ⟨_, PSs.nox (pss_one (ps_expr (pe_cfun C_Draft (hr.mono (by decide)) (by rfl) pass0 (pa_cons (pv 0) (pa_cons (pv 1) (pa_cons (pv 2) (pa_cons (pv 3) (pa_cons (pv 4) (pa_cons pe_bl pa_nil))))))))), ?_⟩
    exact ⟨_, rfl, _, rfl, _, rfl, _, rfl, _, rfl, p, dx, r, t, rfl, hp, hl, ht, fun H' fs sv h => k H' fs sv h⟩
end
end K13

set_option Elab.async false
set_option maxRecDepth 100000
set_option maxHeartbeats 4000000
set_option linter.all false
namespace K13
open PySem PySem.Spec PyProof.Rows L2
section
variable {P : Program} {w : World} {K : PySem.W.Frag} {mg : Str → Option Value} {base : Heap}
theorem ok_draft {f : Addr} {fd : FuncData} (F : FnP K "__init__" "Draft.__init__" s_Draft___init__ f fd) (T : Tx w K mg) (G_checked_table : Def P w K mg base CX0 1 "checked_table" p_checked_table spNoTable)
    (G_are_words : Def P w K mg base CX0 2 "are_words" p_are_words (spGoWords K)) (K_RowCheck : MkA P w K mg base CX0 1 "RowCheck" (He.ga K "RowCheck") [] p_RowCheck___init__ (spRC K))
    (M_check_rows : MDef P w K mg base CX0 2 (He.ga K "RowCheck") "check_rows" p_RowCheck_check_rows (spRows0 K)) (G_copied : Def P w K mg base CX0 1 "copied" p_copied spCopied0)
    (K_Plan : MkA P w K mg base CX0 2 "Plan" (He.ga K "Plan") [] p_Plan___init__ (spPlan K)) (G_named_in : Def P w K mg base CX0 1 "named_in" p_named_in spNamed0)
    (G_check_sizes : Def P w K mg base CX0 1 "check_sizes" p_check_sizes (spSizes0 K)) : FnOk P w K mg base CX0 4 f fd p_Draft___init__ (spDraft K) := by
  refine F.ok sc_Draft___init__ (fun vs H Q E h => ?_) (fun cdv A outer s H vs Q E hr h => ?_)
  · obtain ⟨p, dx, r, t, rfl, _⟩ := h
    rfl
  · obtain ⟨p, dx, r, t, rfl, hp, hl, ht, k⟩ := h
    obtain ⟨t1, mMOST_ASKS⟩ := T.m_MOST_ASKS
    obtain ⟨t2, mMOST_SIGNALS⟩ := T.m_MOST_SIGNALS
    obtain ⟨t3, mMOST_INPUTS⟩ := T.m_MOST_INPUTS
    have rp : r ≠ p := ne_of hl hp (by intro z; cases z)
    have sqk : ∀ {H'' : Hp}, Sv H H'' p → SqT K H'' t gos := fun sv => by
      rcases ht with (h | ⟨o, h⟩) | h
      · exact .inl (.inl (sv _ _ h (ne_of h hp (by intro z; cases z))))
      · exact .inl (.inr ⟨o, sv _ _ h (ne_of h hp (by intro z; cases z))⟩)
      · exact .inr h
    have sv0 : Sv H H p := fun b o hb _ => hb
    refine ⟨_, PSs.nox (pss_cons (ps_fld (pv 0) (pe_fn G_checked_table (hr.mono (by decide)) (by rfl) pass0 (pa_cons (pv 2) (pa_cons pe_str (pa_cons (pe_glob (by rfl) mMOST_ASKS (show RelV (.int (6)) _ from ⟨_, rfl⟩)) pa_nil)))) rfl)
      (pss_cons (ps_fld (pv 0) (pe_fn G_checked_table (hr.mono (by decide)) (by rfl) pass0 (pa_cons (pv 3) (pa_cons pe_str (pa_cons (pe_glob (by rfl) mMOST_SIGNALS (show RelV (.int (3)) _ from ⟨_, rfl⟩)) pa_nil)))) rfl)
      (pss_cons (ps_if (pt_not (pt_val (pe_fn G_are_words (hr.mono (by decide)) (by rfl) pass0 (pa_cons (pv 4) (pa_cons (pe_glob (by rfl) mMOST_INPUTS (show RelV (.int (3)) _ from ⟨_, rfl⟩)) pa_nil))))) (pss_one ps_never) pss_nil)
      (pss_cons (ps_fld (pv 0) (pv 4) rfl)
      (pss_cons (ps_expr (pe_mth M_check_rows (hr.mono (by decide)) pass0 (pe_mkA K_RowCheck (hr.mono (by decide)) (by rfl) pass0 (pa_cons (pe_fld (pv 0) rfl) (pa_cons (pe_fld (pv 0) rfl) (pa_cons (pv 5) pa_nil)))) (pa_cons (pv 1) pa_nil)))
      (pss_cons (ps_fld (pv 0) (pe_fn G_copied (hr.mono (by decide)) (by rfl) pass0 (pa_cons (pv 1) pa_nil)) rfl)
      (pss_cons (ps_fld (pv 0) (pe_mkA K_Plan (hr.mono (by decide)) (by rfl) pass0 (pa_cons (pe_fld (pv 0) rfl) pa_nil)) rfl)
      (pss_cons (ps_fld (pv 0) (pe_fn G_named_in (hr.mono (by decide)) (by rfl) pass0 (pa_cons (pe_fld (pe_fld (pv 0) rfl) rfl) pa_nil)) rfl)
      (pss_one (ps_expr (pe_fn G_check_sizes (hr.mono (by decide)) (by rfl) pass0 (pa_cons (pe_fld (pv 0) rfl) (pa_cons (pe_fld (pv 0) rfl) pa_nil))))))))))))), ?_⟩
    -- asks
    refine ⟨_, rfl, _, _, rfl, fun d1 n1 => ?_⟩
    have p1 : p ≠ d1 := ne_of_none hp n1
    refine ⟨_, rfl, p, _, dx, _, rfl, (by rw [upd_ne p1]; exact hp), T.c_Program, T.n_Program_ask_table, (by show 0 < 1000; decide), ?_⟩
    have sv1 := (sv0.same (Same.new (o := .dK []) n1)).own (u := .ins (He.ga K "Program") dx (putF "ask_table" (.ref d1) []))
    have hp1 : upd (upd H d1 (.dK [])) p (.ins (He.ga K "Program") dx (putF "ask_table" (.ref d1) [])) p = some (.ins (He.ga K "Program") dx [("ask_table", .ref d1)]) := upd_same
    generalize upd (upd H d1 (.dK [])) p (.ins (He.ga K "Program") dx (putF "ask_table" (.ref d1) [])) = G1 at sv1 hp1 ⊢
    -- signals
    refine ⟨_, rfl, _, _, rfl, fun d2 n2 => ?_⟩
    have p2 : p ≠ d2 := ne_of_none hp1 n2
    refine ⟨_, rfl, p, _, dx, _, rfl, (by rw [upd_ne p2]; exact hp1), T.c_Program, T.n_Program_signal_table, (by show 1 < 1000; decide), ?_⟩
    have sv2 := (sv1.same (Same.new (o := .dK []) n2)).own (u := .ins (He.ga K "Program") dx (putF "signal_table" (.ref d2) [("ask_table", .ref d1)]))
    have hp2 : upd (upd G1 d2 (.dK [])) p (.ins (He.ga K "Program") dx (putF "signal_table" (.ref d2) [("ask_table", .ref d1)])) p = some (.ins (He.ga K "Program") dx [("ask_table", .ref d1), ("signal_table", .ref d2)]) := upd_same
    generalize upd (upd G1 d2 (.dK [])) p (.ins (He.ga K "Program") dx (putF "signal_table" (.ref d2) [("ask_table", .ref d1)])) = G2 at sv2 hp2 ⊢
    -- inputs
    refine ⟨_, rfl, t, rfl, sqk sv2, fun G3 S3 => ?_⟩
    have hp3 := S3 _ _ hp2
    have sv3 := sv2.same S3
    refine ⟨_, rfl, ?_⟩
    refine iteF' (by rfl) ?_
    have F3 : List (Str × V) := [("ask_table", .ref d1), ("signal_table", .ref d2)]
    refine ⟨_, rfl, _, rfl, p, _, dx, _, rfl, hp3, T.c_Program, T.n_Program_input_words, (by show 2 < 1000; decide), ?_⟩
    have sv4 := sv3.own (u := .ins (He.ga K "Program") dx (putF "input_words" (.ref t) [("ask_table", .ref d1), ("signal_table", .ref d2)]))
    have hp4 : upd G3 p (.ins (He.ga K "Program") dx (putF "input_words" (.ref t) [("ask_table", .ref d1), ("signal_table", .ref d2)])) p = some (.ins (He.ga K "Program") dx [("ask_table", .ref d1), ("signal_table", .ref d2), ("input_words", .ref t)]) := upd_same
    generalize upd G3 p (.ins (He.ga K "Program") dx (putF "input_words" (.ref t) [("ask_table", .ref d1), ("signal_table", .ref d2)])) = G4 at sv4 hp4 ⊢
    have hl4 := sv4 _ _ hl rp
    -- the rows are checked
    refine ⟨_, rfl, p, _, dx, _, .ref d1, rfl, hp4, T.c_Program, T.n_Program_ask_table, rfl, _, rfl, p, _, dx, _, .ref d2, rfl, hp4, T.c_Program, T.n_Program_signal_table, rfl, _, rfl, fun x y nx ny nxy => ?_⟩
    have nyx : y ≠ x := nxy
    have SX : Same G4 (upd (upd G4 y (.own x)) x (.ins (He.ga K "RowCheck") y [])) := by
      intro b o hb
      rw [upd_ne (ne_of_none hb nx), upd_ne (ne_of_none hb ny)]
      exact hb
    refine ⟨x, y, _, _, false, rfl, upd_same, fun G5 d e kp5 hx5 => ⟨rfl, ?_⟩⟩
    have S5 : Same G4 G5 := fun b o hb => kp5 b o (SX b o hb) (ne_of_none hb nx)
    refine ⟨x, y, _, rfl, hx5, rfl, _, rfl, x, r, y, d, e, _, _, _, rfl, hx5, S5 _ _ hl4, fun G6 S6 => ?_⟩
    have S46 := S5.trans S6
    have sv6 := sv4.same S46
    have hp6 := S46 _ _ hp4
    have hl6 := S46 _ _ hl4
    -- copied
    refine ⟨_, rfl, r, rfl, hl6, fun l1 m1 => ?_⟩
    have q1 : p ≠ l1 := ne_of_none hp6 m1
    refine ⟨_, rfl, p, _, dx, _, rfl, (by rw [upd_ne q1]; exact hp6), T.c_Program, T.n_Program_row_list, (by show 3 < 1000; decide), ?_⟩
    have sv7 := (sv6.same (Same.new (o := .lst []) m1)).own (u := .ins (He.ga K "Program") dx (putF "row_list" (.ref l1) [("ask_table", .ref d1), ("signal_table", .ref d2), ("input_words", .ref t)]))
    have hp7 : upd (upd G6 l1 (.lst [])) p (.ins (He.ga K "Program") dx (putF "row_list" (.ref l1) [("ask_table", .ref d1), ("signal_table", .ref d2), ("input_words", .ref t)])) p = some (.ins (He.ga K "Program") dx [("ask_table", .ref d1), ("signal_table", .ref d2), ("input_words", .ref t), ("row_list", .ref l1)]) := upd_same
    have hl7 : upd (upd G6 l1 (.lst [])) p (.ins (He.ga K "Program") dx (putF "row_list" (.ref l1) [("ask_table", .ref d1), ("signal_table", .ref d2), ("input_words", .ref t)])) l1 = some (.lst []) := by rw [upd_ne q1.symm]; exact upd_same
    generalize upd (upd G6 l1 (.lst [])) p (.ins (He.ga K "Program") dx (putF "row_list" (.ref l1) [("ask_table", .ref d1), ("signal_table", .ref d2), ("input_words", .ref t)])) = G7 at sv7 hp7 hl7 ⊢
    -- the plan
    refine ⟨_, rfl, p, _, dx, _, .ref l1, rfl, hp7, T.c_Program, T.n_Program_row_list, rfl, fun x2 y2 nx2 ny2 nxy2 => ?_⟩
    have SX2 : Same G7 (upd (upd G7 y2 (.own x2)) x2 (.ins (He.ga K "Plan") y2 [])) := by
      intro b o hb
      rw [upd_ne (ne_of_none hb nx2), upd_ne (ne_of_none hb ny2)]
      exact hb
    refine ⟨x2, y2, l1, rfl, upd_same, SX2 _ _ hl7, fun G8 fl rest kp8 hx8 hf8 => ⟨rfl, ?_⟩⟩
    have S8 : Same G7 G8 := fun b o hb => kp8 b o (SX2 b o hb) (ne_of_none hb nx2)
    have hp8 := S8 _ _ hp7
    have sv8 := sv7.same S8
    refine ⟨_, rfl, p, _, dx, _, rfl, hp8, T.c_Program, T.n_Program_plan, (by show 4 < 1000; decide), ?_⟩
    have xp : x2 ≠ p := ne_of_none hp7 nx2 |>.symm
    have fp : fl ≠ p := ne_of hf8 hp8 (by intro z; cases z)
    have sv9 := sv8.own (u := .ins (He.ga K "Program") dx (putF "plan" (.ref x2) [("ask_table", .ref d1), ("signal_table", .ref d2), ("input_words", .ref t), ("row_list", .ref l1)]))
    have hp9 : upd G8 p (.ins (He.ga K "Program") dx (putF "plan" (.ref x2) [("ask_table", .ref d1), ("signal_table", .ref d2), ("input_words", .ref t), ("row_list", .ref l1)])) p = some (.ins (He.ga K "Program") dx [("ask_table", .ref d1), ("signal_table", .ref d2), ("input_words", .ref t), ("row_list", .ref l1), ("plan", .ref x2)]) := upd_same
    have hx9 : upd G8 p (.ins (He.ga K "Program") dx (putF "plan" (.ref x2) [("ask_table", .ref d1), ("signal_table", .ref d2), ("input_words", .ref t), ("row_list", .ref l1)])) x2 = some (.ins (He.ga K "Plan") y2 (("flat", .ref fl) :: rest)) := by rw [upd_ne xp]; exact hx8
    have hf9 : upd G8 p (.ins (He.ga K "Program") dx (putF "plan" (.ref x2) [("ask_table", .ref d1), ("signal_table", .ref d2), ("input_words", .ref t), ("row_list", .ref l1)])) fl = some (.lst []) := by rw [upd_ne fp]; exact hf8
    generalize upd G8 p (.ins (He.ga K "Program") dx (putF "plan" (.ref x2) [("ask_table", .ref d1), ("signal_table", .ref d2), ("input_words", .ref t), ("row_list", .ref l1)])) = G9 at sv9 hp9 hx9 hf9 ⊢
    -- the names
    refine ⟨_, rfl, p, _, dx, _, .ref x2, rfl, hp9, T.c_Program, T.n_Program_plan, rfl, x2, _, y2, _, .ref fl, rfl, hx9, T.c_Plan, T.n_Plan_flat, rfl, fl, rfl, hf9, fun GA nt na nb nc SA hnt hna hnb hnc nt0 => ?_⟩
    have hpA := SA _ _ hp9
    have svA := sv9.same SA
    refine ⟨_, rfl, p, _, dx, _, rfl, hpA, T.c_Program, T.n_Program_name_table, (by show 5 < 1000; decide), ?_⟩
    have svB := svA.own (u := .ins (He.ga K "Program") dx (putF "name_table" (.ref nt) [("ask_table", .ref d1), ("signal_table", .ref d2), ("input_words", .ref t), ("row_list", .ref l1), ("plan", .ref x2)]))
    have hpB : upd GA p (.ins (He.ga K "Program") dx (putF "name_table" (.ref nt) [("ask_table", .ref d1), ("signal_table", .ref d2), ("input_words", .ref t), ("row_list", .ref l1), ("plan", .ref x2)])) p = some (.ins (He.ga K "Program") dx [("ask_table", .ref d1), ("signal_table", .ref d2), ("input_words", .ref t), ("row_list", .ref l1), ("plan", .ref x2), ("name_table", .ref nt)]) := upd_same
    have other : ∀ {a : Addr} {o : HO}, GA a = some o → a ≠ p → upd GA p (.ins (He.ga K "Program") dx (putF "name_table" (.ref nt) [("ask_table", .ref d1), ("signal_table", .ref d2), ("input_words", .ref t), ("row_list", .ref l1), ("plan", .ref x2)])) a = some o := fun h n => by rw [upd_ne n]; exact h
    have ln : ∀ {a : Addr}, GA a = some (.lst []) → a ≠ p := fun h => ne_of h hpA (by intro z; cases z)
    refine ⟨_, rfl, p, _, dx, _, .ref x2, rfl, hpB, T.c_Program, T.n_Program_plan, rfl, _, rfl, p, _, dx, _, .ref nt, rfl, hpB, T.c_Program, T.n_Program_name_table, rfl, ?_⟩
    refine ⟨x2, y2, fl, nt, na, nb, nc, rest, rfl, other (SA _ _ hx9) xp, other (SA _ _ hf9) fp, other hnt (ne_of hnt hpA (by intro z; cases z)), other hna (ln hna), other hnb (ln hnb), other hnc (ln hnc), ?_⟩
    exact k _ _ svB hpB
end
end K13

set_option Elab.async false
set_option maxRecDepth 100000
set_option maxHeartbeats 4000000
set_option linter.all false
namespace K13
open PySem PySem.Spec PyProof.Rows L2
/-! ### reading what is no history -/
inductive NoProg (K : PySem.W.Frag) (H : Hp) : V → Prop where
  | non : NoProg K H .non
  | int (i : Int) : NoProg K H (.int i)
  | str (z : Str) : NoProg K H (.str z)
  | lst {a : Addr} {xs : List V} (h : SqL K H a xs) : NoProg K H (.ref a)
  | tup {a : Addr} {xs : List V} (h : SqT K H a xs) : NoProg K H (.ref a)
  | dic {a : Addr} {kvs : List (Key × V)} (h : H a = some (.dK kvs)) : NoProg K H (.ref a)
theorem NoProg.same {K : PySem.W.Frag} {H H' : Hp} {v : V} (e : Same H H') (h : NoProg K H v) : NoProg K H' v := by
  cases h with
  | non => exact .non
  | int i => exact .int i
  | str z => exact .str z
  | lst h => exact .lst (e.seq h)
  | tup h => exact .tup (sameT e h)
  | dic h => exact .dic (e _ _ h)
theorem NoProg.ty {K : PySem.W.Frag} {H : Hp} {v : V} (h : NoProg K H v) : ∃ t, TyX K H v (.type t) ∧ t ∈ (["NoneType", "list", "str", "int", "dict", "tuple"] : List String) := by
  cases h with
  | non => exact ⟨_, .base .non, by simp⟩
  | int i => exact ⟨_, .base (.int i), by simp⟩
  | str z => exact ⟨_, .base (.str z), by simp⟩
  | lst h => exact ⟨_, tyL h, by simp⟩
  | tup h => exact ⟨_, tyT h, by simp⟩
  | dic h => exact ⟨_, .base (.dK h), by simp⟩
theorem raise_part {K : PySem.W.Frag} {H0 H1 : Hp} {E : XK} {z : Str} (S : Same H0 H1) (k : ∀ (d0 : Addr) (H' : Hp), Same H0 H' → H0 d0 = none → H' d0 = some (.xd [("part", .str z)]) → E (.ref (cIA K)) (some d0) H') :
    ∀ (d0 : Addr) (H' : Hp), H1 d0 = none → H' d0 = some (.xd [("part", .str z)]) → (∀ b, b ≠ d0 → H' b = H1 b) → E (.ref (cIA K)) (some d0) H' :=
  fun d0 H' nd hd oth => k d0 H' (fun b o hb => by
    have := S b o hb
    rw [oth b (ne_of_none this nd)]
    exact this) (S.free nd) hd
/-- what a reader of a history raises: of what is no program, or of what is no history -/
def spRaise (K : PySem.W.Frag) : Sp := fun vs H _ E => (∃ (v u : V), vs = [v, u] ∧ NoProg K H v ∧ ∀ (d0 : Addr) (H' : Hp), Same H H' → H d0 = none → H' d0 = some (.xd [("part", .str "program")]) → E (.ref (cIA K)) (some d0) H') ∨
  ∃ (p dx : Addr) (fs : List (Str × V)) (u : V) (o : Option (List (Option Tok))) (i : Int), vs = [.ref p, u] ∧ H p = some (.ins (He.ga K "Program") dx fs) ∧ HistV K H u o ∧ (osL o).length ≤ 450 ∧ flaw o = some i ∧
    ∀ (d0 : Addr) (H' : Hp), Same H H' → H d0 = none → H' d0 = some (.xd [("at", .int i)]) → E (.ref (cIH K)) (some d0) H'
def rdF (v : V) : List (Str × V) := [("program", v), ("moment", .non), ("turns_read", .int 0), ("tokens_read", .int 0), ("breach", .non)]
def spReader (K : PySem.W.Frag) : Sp := fun vs H Q _ => ∃ (p dx : Addr) (v : V), vs = [.ref p, v] ∧ H p = some (.ins (He.ga K "Reader") dx []) ∧ ∀ H', Sv H H' p → H' p = some (.ins (He.ga K "Reader") dx (rdF v)) → Q .non H'
theorem HistV.same {K : PySem.W.Frag} {H H' : Hp} {v : V} {o : Option (List (Option Tok))} (e : Same H H') (h : HistV K H v o) : HistV K H' v o := by
  cases o with
  | none => exact NotL.same e h
  | some os =>
    obtain ⟨a, xs, h1, h2, h3⟩ := h
    exact ⟨a, xs, h1, e.seq h2, h3.imp fun x y _ z => z.same e⟩
section
variable {P : Program} {w : World} {K : PySem.W.Frag} {mg : Str → Option Value} {base : Heap}
theorem ok_reader {f : Addr} {fd : FuncData} (F : FnP K "__init__" "Reader.__init__" s_Reader___init__ f fd) (T : Tx w K mg) : FnOk P w K mg base CX0 1 f fd p_Reader___init__ (spReader K) := by
  refine F.ok sc_Reader___init__ (fun vs H Q E h => ?_) (fun cdv A outer s H vs Q E hr h => ?_)
  · obtain ⟨p, dx, v, rfl, _⟩ := h
    rfl
  · obtain ⟨p, dx, v, rfl, hp, k⟩ := h
    refine ⟨_, PSs.nox (pss_cons (ps_fld (pv 0) (pv 1) rfl)
      (pss_cons (ps_fld (pv 0) pe_non rfl)
      (pss_cons (ps_fld (pv 0) pe_int rfl)
      (pss_cons (ps_fld (pv 0) pe_int rfl)
      (pss_one (ps_fld (pv 0) pe_non rfl)))))), ?_⟩
    refine ⟨_, rfl, _, rfl, p, _, dx, [], rfl, hp, T.c_Reader, T.n_Reader_program, (by show 0 < 1000; decide), ?_⟩
    refine ⟨_, rfl, p, _, dx, _, rfl, upd_same, T.c_Reader, T.n_Reader_moment, (by show 1 < 1000; decide), ?_⟩
    refine ⟨_, rfl, p, _, dx, _, rfl, upd_same, T.c_Reader, T.n_Reader_turns_read, (by show 2 < 1000; decide), ?_⟩
    refine ⟨_, rfl, p, _, dx, _, rfl, upd_same, T.c_Reader, T.n_Reader_tokens_read, (by show 3 < 1000; decide), ?_⟩
    refine ⟨_, rfl, p, _, dx, _, rfl, upd_same, T.c_Reader, T.n_Reader_breach, (by show 4 < 1000; decide), ?_⟩
    exact k _ (fun b o hb nb => by rw [upd_ne nb, upd_ne nb, upd_ne nb, upd_ne nb, upd_ne nb]; exact hb) upd_same
theorem ok_readerOf {f : Addr} {fd : FuncData} (F : FnP K "reader_of" "reader_of" s_reader_of f fd) (T : Tx w K mg) (E_InvalidArgument : ErrDef P w K mg base CX0 1 "InvalidArgument" (cIA K) ["self", "part"] ["part"])
    (K_Reader : MkA P w K mg base CX0 1 "Reader" (He.ga K "Reader") [] p_Reader___init__ (spReader K)) (M_read_turns : MDef P w K mg base CX0 1 (He.ga K "Reader") "read_turns" p_Reader_read_turns fun _ _ _ _ => False)
    (G_cut : Def P w K mg base (L2.CX P w) 5 "cut" p_cut (spCutG K)) : FnOk P w K mg base (L2.CX P w) 6 f fd p_reader_of (spRaise K) := by
  refine F.ok sc_reader_of (fun vs H Q E h => ?_) (fun cdv A outer s H vs Q E hr h => ?_)
  · rcases h with ⟨v, u, rfl, _⟩ | ⟨p, dx, fs, u, o, i, rfl, _⟩ <;> rfl
  · refine ⟨_, (pss_cons (ps_if (pt_not (pt_val (pe_callB call_isi (by rfl) T.b_isinstance (by decide +kernel) (pa_cons (pv 0) (pa_cons (pe_ref (by rfl) T.m_Program) pa_nil))))) (pss_one (ps_raise rfl (takes_of rfl rfl rfl rfl) (pmk_errL E_InvalidArgument (hr.mono (by decide)) (by rfl) pass0 (pa_cons pe_str pa_nil)))) pss_nil)
      (pss_cons (ps_set (i := 2) sc_reader_of.nd rfl (.inl rfl) (pe_mkA K_Reader (hr.mono (by decide)) (by rfl) pass0 (pa_cons (pv 0) pa_nil)))
      (pss_cons (ps_expr (pe_mth M_read_turns (hr.mono (by decide)) pass0 (pv 2) (pa_cons (pe_fnS G_cut (hr.mono (by decide)) (by rfl) (takes_of rfl rfl rfl rfl) (pa_cons (pv 1) pa_nil)) pa_nil)))
      (pss_one (ps_ret (pv 2)))))), ?_⟩
    rcases h with ⟨v, u, rfl, hn, k⟩ | ⟨p, dx, fs, u, o, i, rfl, hp, hu, few, hf, k⟩
    · obtain ⟨t, h1, h2⟩ := hn.ty
      refine ⟨_, rfl, v, _, _, _, false, rfl, .own _, h1, T.kp t h2, _, rfl, ?_⟩
      refine iteT ?_
      exact ⟨rfl, raise_part (Same.refl H) k⟩
    · refine ⟨_, rfl, .ref p, _, _, _, true, rfl, .own _, T.tyP H p dx fs hp, T.kt, _, rfl, ?_⟩
      refine iteF ?_
      refine ⟨_, rfl, fun x y nx ny nxy => ?_⟩
      have SX : Same H (upd (upd H y (.own x)) x (.ins (He.ga K "Reader") y [])) := by
        intro b o hb
        rw [upd_ne (ne_of_none hb nx), upd_ne (ne_of_none hb ny)]
        exact hb
      refine ⟨x, y, _, rfl, upd_same, fun G5 kp5 hx5 => ⟨rfl, ?_⟩⟩
      have S5 : Same H G5 := fun b o hb => kp5 b o (SX b o hb) (ne_of_none hb nx)
      refine ⟨_, rfl, x, y, _, rfl, hx5, rfl, _, rfl, u, o, rfl, hu.same S5, few, fun z => (by rw [hf] at z; cases z), fun j hj d0 H' S' nd hd => ?_⟩
      rw [hf] at hj
      cases hj
      exact k d0 H' (S5.trans S') (S5.free nd) hd
theorem ok_read {f : Addr} {fd : FuncData} (F : FnP K "read" "read" s_read f fd) (T : Tx w K mg) (G_reader_of : Def P w K mg base (L2.CX P w) 6 "reader_of" p_reader_of (spRaise K)) : FnOk P w K mg base (L2.CX P w) 7 f fd p_read (spRaise K) := by
  refine F.ok sc_read (fun vs H Q E h => ?_) (fun cdv A outer s H vs Q E hr h => ?_)
  · rcases h with ⟨v, u, rfl, _⟩ | ⟨p, dx, fs, u, o, i, rfl, _⟩ <;> rfl
  · refine ⟨_, (pss_cons (ps_set (i := 2) sc_read.nd rfl (.inl rfl) (pe_fnS G_reader_of (hr.mono (by decide)) (by rfl) (takes_of rfl rfl rfl rfl) (pa_cons (pv 0) (pa_cons (pv 1) pa_nil))))
      (pss_cons ps_never
      (pss_one ps_never))), ?_⟩
    rcases h with ⟨v, u, rfl, h⟩ | ⟨p, dx, fs, u, o, i, rfl, h⟩
    · exact ⟨_, rfl, _, rfl, .inl ⟨v, u, rfl, h⟩⟩
    · exact ⟨_, rfl, _, rfl, .inr ⟨p, dx, fs, u, o, i, rfl, h⟩⟩
theorem ok_good {f : Addr} {fd : FuncData} (F : FnP K "good_turns" "good_turns" s_good_turns f fd) (T : Tx w K mg) (G_reader_of : Def P w K mg base (L2.CX P w) 6 "reader_of" p_reader_of (spRaise K)) : FnOk P w K mg base (L2.CX P w) 7 f fd p_good_turns (spRaise K) := by
  refine F.ok sc_good_turns (fun vs H Q E h => ?_) (fun cdv A outer s H vs Q E hr h => ?_)
  · rcases h with ⟨v, u, rfl, _⟩ | ⟨p, dx, fs, u, o, i, rfl, _⟩ <;> rfl
  · refine ⟨_, (pss_one (ps_ret (pe_fld (pe_fnS G_reader_of (hr.mono (by decide)) (by rfl) (takes_of rfl rfl rfl rfl) (pa_cons (pv 0) (pa_cons (pv 1) pa_nil))) rfl))), ?_⟩
    rcases h with ⟨v, u, rfl, h⟩ | ⟨p, dx, fs, u, o, i, rfl, h⟩
    · exact ⟨_, rfl, _, rfl, .inl ⟨v, u, rfl, h⟩⟩
    · exact ⟨_, rfl, _, rfl, .inr ⟨p, dx, fs, u, o, i, rfl, h⟩⟩
theorem ok_resume {f : Addr} {fd : FuncData} (F : FnP K "resume" "resume" s_resume f fd) (T : Tx w K mg) (G_reader_of : Def P w K mg base (L2.CX P w) 6 "reader_of" p_reader_of (spRaise K)) : FnOk P w K mg base (L2.CX P w) 7 f fd p_resume (spRaise K) := by
  refine F.ok sc_resume (fun vs H Q E h => ?_) (fun cdv A outer s H vs Q E hr h => ?_)
  · rcases h with ⟨v, u, rfl, _⟩ | ⟨p, dx, fs, u, o, i, rfl, _⟩ <;> rfl
  · refine ⟨_, (pss_cons (ps_set (i := 2) sc_resume.nd rfl (.inl rfl) (pe_fnS G_reader_of (hr.mono (by decide)) (by rfl) (takes_of rfl rfl rfl rfl) (pa_cons (pv 0) (pa_cons (pv 1) pa_nil))))
      (pss_cons ps_never
      (pss_one ps_never))), ?_⟩
    rcases h with ⟨v, u, rfl, h⟩ | ⟨p, dx, fs, u, o, i, rfl, h⟩
    · exact ⟨_, rfl, _, rfl, .inl ⟨v, u, rfl, h⟩⟩
    · exact ⟨_, rfl, _, rfl, .inr ⟨p, dx, fs, u, o, i, rfl, h⟩⟩
end
end K13

set_option Elab.async false
set_option maxRecDepth 100000
set_option maxHeartbeats 4000000
set_option linter.all false
namespace K13
open PySem PySem.Spec PyProof.Rows L2
/-! ### the bag of draws -/
def bagK (c : Addr) (at_ : Nat) (rest seed many : Int) : List (Key × V) := [(.inr "cells", .ref c), (.inr "at", .int at_), (.inr "rest", .int rest), (.inr "seed", .int seed), (.inr "many", .int many)]
/-- a bag stands at b, its cells at c -/
def Bg (H : Hp) (b c : Addr) : Prop := ∃ (at_ : Nat) (rest seed many : Int) (ns : List Int), H b = some (.dK (bagK c at_ rest seed many)) ∧ H c = some (.lst (ns.map V.int))
theorem Bg.ne {H : Hp} {b c : Addr} (h : Bg H b c) : b ≠ c := by
  obtain ⟨_, _, _, _, _, h1, h2⟩ := h
  exact ne_of h1 h2 (by intro z; cases z)
theorem dg_cells {H : Hp} {b c : Addr} {a : Nat} {r s m : Int} (h : H b = some (.dK (bagK c a r s m))) : DGet H b (.str "cells") (some (.ref c)) := DGet.k (k := .inr "cells") h
theorem dg_at {H : Hp} {b c : Addr} {a : Nat} {r s m : Int} (h : H b = some (.dK (bagK c a r s m))) : DGet H b (.str "at") (some (.int a)) := DGet.k (k := .inr "at") h
theorem dg_rest {H : Hp} {b c : Addr} {a : Nat} {r s m : Int} (h : H b = some (.dK (bagK c a r s m))) : DGet H b (.str "rest") (some (.int r)) := DGet.k (k := .inr "rest") h
theorem dg_seed {H : Hp} {b c : Addr} {a : Nat} {r s m : Int} (h : H b = some (.dK (bagK c a r s m))) : DGet H b (.str "seed") (some (.int s)) := DGet.k (k := .inr "seed") h
theorem dg_many {H : Hp} {b c : Addr} {a : Nat} {r s m : Int} (h : H b = some (.dK (bagK c a r s m))) : DGet H b (.str "many") (some (.int m)) := DGet.k (k := .inr "many") h
theorem dp_at {H : Hp} {b c : Addr} {a : Nat} {r s m : Int} (h : H b = some (.dK (bagK c a r s m))) : DPut H b (.str "at") (.int (a + 1)) (upd H b (.dK (bagK c (a + 1) r s m))) := DPut.k (k := .inr "at") h (small1000 (by show 5 ≤ 1000; decide))
theorem dp_rest {H : Hp} {b c : Addr} {a : Nat} {r s m z : Int} (h : H b = some (.dK (bagK c a r s m))) : DPut H b (.str "rest") (.int z) (upd H b (.dK (bagK c a z s m))) := DPut.k (k := .inr "rest") h (small1000 (by show 5 ≤ 1000; decide))
theorem dp_seed {H : Hp} {b c : Addr} {a : Nat} {r s m z : Int} (h : H b = some (.dK (bagK c a r s m))) : DPut H b (.str "seed") (.int z) (upd H b (.dK (bagK c a r z m))) := DPut.k (k := .inr "seed") h (small1000 (by show 5 ≤ 1000; decide))
theorem dp_many {H : Hp} {b c : Addr} {a : Nat} {r s m z : Int} (h : H b = some (.dK (bagK c a r s m))) : DPut H b (.str "many") (.int z) (upd H b (.dK (bagK c a r s z))) := DPut.k (k := .inr "many") h (small1000 (by show 5 ≤ 1000; decide))
/-- nothing but the bag has changed -/
def Only (H H' : Hp) (b : Addr) : Prop := ∀ x, x ≠ b → H' x = H x
theorem Only.refl (H : Hp) (b : Addr) : Only H H b := fun _ _ => rfl
theorem Only.trans {H H1 H2 : Hp} {b : Addr} (a : Only H H1 b) (c : Only H1 H2 b) : Only H H2 b := fun x hx => (c x hx).trans (a x hx)
theorem Only.upd {H : Hp} {b : Addr} {o : HO} : Only H (upd H b o) b := fun x hx => upd_ne hx
def spDraw : Sp := fun vs H Q _ => ∃ (b c : Addr) (m : Nat), vs = [.ref b, .int m] ∧ Bg H b c ∧ m < 1000000 ∧ ∀ (d : Nat) (H' : Hp), (d < m ∨ (d = 0 ∧ m < 2)) → Bg H' b c → Only H H' b → Q (.int d) H'
theorem fmod_nat {x : Int} {m : Nat} (h : 0 < m) : ∃ d : Nat, x.fmod m = d ∧ d < m := by
  have h0 := Int.fmod_nonneg_of_pos x (show (0 : Int) < m by omega)
  have h1 := Int.fmod_lt_of_pos x (show (0 : Int) < m by omega)
  exact ⟨(x.fmod m).toNat, by omega, by omega⟩
section
variable {P : Program} {w : World} {K : PySem.W.Frag} {mg : Str → Option Value} {base : Heap}
theorem ok_draw {f : Addr} {fd : FuncData} (F : FnP K "_law_draw" "_law_draw" s__law_draw f fd) (T : Tx w K mg) : FnOk P w K mg base CX0 1 f fd p__law_draw spDraw := by
  refine F.ok sc__law_draw (fun vs H Q E h => ?_) (fun cdv A outer s H vs Q E hr h => ?_)
  · obtain ⟨b, c, m, rfl, _⟩ := h
    rfl
  · obtain ⟨b, c, m, rfl, hb, hm, k⟩ := h
    have hu := hu_of hr
    have hbc := hb.ne
    obtain ⟨at_, rest, seed, many, ns, h1, h2⟩ := hb
    refine ⟨_, PSs.nox (pss_cons (ps_if (pt_cmpR op_lt (pv 1) pe_int (nomark _)) (pss_one (ps_ret pe_int)) pss_nil)
      (pss_cons (ps_dput hu (pv 0) pe_str (pe_op op_add (pe_dget hu (pv 0) pe_str (fun _ _ => rfl)) pe_int) rfl)
      (C8.pss_cut (ps_if (PW.pt (pw_and (pt_cmpR op_eq (pe_dget hu (pv 0) pe_str (fun _ _ => rfl)) pe_int (nomark _)) (pw_and1 (pt_cmpR op_lt (pe_dget hu (pv 0) pe_str (fun _ _ => rfl)) (pe_callB call_len_seq (by rfl) T.b_len PySem.boot_len (pa_cons (pe_dget hu (pv 0) pe_str (fun _ _ => rfl)) pa_nil)) (nomark _))))) (pss_cons (ps_set (i := 3) sc__law_draw.nd rfl (.inl rfl) (pe_ix ix_list (pe_dget hu (pv 0) pe_str (fun _ _ => rfl)) (pe_dget hu (pv 0) pe_str (fun _ _ => rfl)) (fun _ _ => rfl)))
      (pss_cons (ps_dput hu (pv 0) pe_str (pe_op op_add (pe_dget hu (pv 0) pe_str (fun _ _ => rfl)) pe_int) rfl)
      (pss_one (ps_if (pt_cmpR op_ge (pv 3) (pe_op op_pow pe_int pe_int) (nomark _)) (pss_one (ps_dput hu (pv 0) pe_str (pv 3) rfl)) (pss_one (ps_dput hu (pv 0) pe_str (pe_op op_modN (pe_callTy call_int1 (by rfl) T.b_int (by decide +kernel) (pa_cons (pe_op op_add (pe_op op_add (pe_op op_mul (pe_dget hu (pv 0) pe_str (fun _ _ => rfl)) pe_int) (pe_op op_modN (pe_callTy call_int1 (by rfl) T.b_int (by decide +kernel) (pa_cons (pv 3) pa_nil)) pe_int)) pe_int) pa_nil)) pe_int) rfl)))))) pss_nil)
      (C8.pss_cut (ps_if (pt_cmpR op_gt (pe_dget hu (pv 0) pe_str (fun _ _ => rfl)) pe_int (nomark _)) (pss_cons (ps_set (i := 4) sc__law_draw.nd rfl (.inl rfl) (pe_op op_modN (pe_callTy call_int1 (by rfl) T.b_int (by decide +kernel) (pa_cons (pe_dget hu (pv 0) pe_str (fun _ _ => rfl)) pa_nil)) (pv 1)))
      (pss_cons (ps_dput hu (pv 0) pe_str (pe_op op_fdivN (pe_dget hu (pv 0) pe_str (fun _ _ => rfl)) (pv 1)) rfl)
      (pss_one (ps_ret (pv 4))))) pss_nil)
      (pss_cons (ps_set (i := 2) sc__law_draw.nd rfl (.inl rfl) (pe_op op_modN (pe_callTy call_int1 (by rfl) T.b_int (by decide +kernel) (pa_cons (pe_op op_mul (pe_op op_add (pe_op op_add (pe_dget hu (pv 0) pe_str (fun _ _ => rfl)) (pe_op op_mul pe_int (pe_dget hu (pv 0) pe_str (fun _ _ => rfl)))) pe_int) pe_int) pa_nil)) pe_int))
      (pss_cons (ps_set (i := 2) sc__law_draw.nd rfl (.inl rfl) (pe_op op_modN (pe_callTy call_int1 (by rfl) T.b_int (by decide +kernel) (pa_cons (pe_op op_mul (pv 2) (pe_op op_add (pe_op op_fdivN (pv 2) pe_int) pe_int)) pa_nil)) pe_int))
      (pss_one (ps_ret (pe_op op_modN (pe_op op_fdivN (pe_op op_modN (pe_callTy call_int1 (by rfl) T.b_int (by decide +kernel) (pa_cons (pe_op op_mul (pv 2) (pe_op op_add (pe_op op_fdivN (pv 2) pe_int) pe_int)) pa_nil)) pe_int) pe_int) (pv 1)))))))))), ?_⟩
    refine ⟨_, rfl, _, _, rfl, rfl, _, rfl, ?_⟩
    refine ite2 (fun q => ?_) fun q => ?_
    · have q' : (m : Int) < 2 := of_decide_eq_true q
      exact k 0 H (.inr ⟨rfl, by omega⟩) ⟨at_, rest, seed, many, ns, h1, h2⟩ (Only.refl H b)
    · have q' : ¬ (m : Int) < 2 := fun z => q (decide_eq_true z)
      have hm0 : 0 < m := by omega
      refine ⟨_, rfl, b, _, rfl, dg_many h1, _, _, rfl, rfl, _, rfl, b, _, rfl, dp_many h1, ?_⟩
      have g1 : upd H b (.dK (bagK c at_ rest seed (many + 1))) b = some (.dK (bagK c at_ rest seed (many + 1))) := upd_same
      have g2 : upd H b (.dK (bagK c at_ rest seed (many + 1))) c = some (.lst (ns.map V.int)) := by rw [upd_ne hbc.symm]; exact h2
      have g3 : Only H (upd H b (.dK (bagK c at_ rest seed (many + 1)))) b := Only.upd
      generalize upd H b (.dK (bagK c at_ rest seed (many + 1))) = H1 at g1 g2 g3
      refine ⟨fun σ' H' => ∃ (a' : Nat) (r' s' m' : Int) (v : Option V), σ' = [some (.ref b), some (.int m), none, v, none] ∧ H' b = some (.dK (bagK c a' r' s' m')) ∧ H' c = some (.lst (ns.map V.int)) ∧ Only H H' b, ?_, ?_⟩
      · refine ⟨_, rfl, b, _, rfl, dg_rest g1, rfl, _, rfl, ?_⟩
        refine ite2 (fun e => ?_) fun e => ?_
        · refine ⟨_, rfl, b, _, rfl, dg_at g1, _, rfl, b, _, rfl, dg_cells g1, c, _, rfl, .inl (SqL.of g2), _, _, rfl, rfl, _, rfl, ?_⟩
          refine ite2 (fun e2 => ?_) fun e2 => ?_
          · have e3 : at_ < ns.length := by
              have := of_decide_eq_true e2
              rw [List.length_map] at this
              omega
            refine ⟨_, rfl, b, _, rfl, dg_cells g1, _, rfl, b, _, rfl, dg_at g1, c, _, _, .int ns[at_], rfl, rfl, SqL.of g2, atI_nat (by simp [e3]), ?_⟩
            refine ⟨_, rfl, b, _, rfl, dg_at g1, _, _, rfl, rfl, _, rfl, b, _, rfl, dp_at g1, ?_⟩
            have i1 : upd H1 b (.dK (bagK c (at_ + 1) rest seed (many + 1))) b = some (.dK (bagK c (at_ + 1) rest seed (many + 1))) := upd_same
            have i2 : upd H1 b (.dK (bagK c (at_ + 1) rest seed (many + 1))) c = some (.lst (ns.map V.int)) := by rw [upd_ne hbc.symm]; exact g2
            have i3 : Only H (upd H1 b (.dK (bagK c (at_ + 1) rest seed (many + 1)))) b := g3.trans Only.upd
            generalize upd H1 b (.dK (bagK c (at_ + 1) rest seed (many + 1))) = H2 at i1 i2 i3
            refine ⟨_, rfl, _, _, rfl, rfl, ⟨by decide, by decide, by decide⟩, _, _, rfl, rfl, _, rfl, ?_⟩
            refine ite2 (fun _ => ?_) fun _ => ?_
            · exact ⟨_, rfl, _, rfl, b, _, rfl, dp_rest i1, _, _, _, _, _, rfl, upd_same, by rw [upd_ne hbc.symm]; exact i2, i3.trans Only.upd⟩
            · refine ⟨_, rfl, b, _, rfl, dg_seed i1, _, _, rfl, rfl, .inr ⟨by decide, by decide⟩, _, rfl, .inl ⟨_, rfl, _, _, rfl, rfl, (by show (2147483399 : Int) ≠ 0; decide), _, _, rfl, rfl, _, _, rfl, rfl, .inl ⟨_, rfl, _, _, rfl, rfl, (by show (2147483647 : Int) ≠ 0; decide), ?_⟩⟩⟩
              exact ⟨_, rfl, b, _, rfl, dp_seed i1, _, _, _, _, _, rfl, upd_same, by rw [upd_ne hbc.symm]; exact i2, i3.trans Only.upd⟩
          · exact ⟨_, _, _, _, _, rfl, g1, g2, g3⟩
        · exact ⟨_, _, _, _, _, rfl, g1, g2, g3⟩
      · rintro σ' H2 ⟨a', r', s', m', v, rfl, g1, g2, g3⟩
        refine ⟨fun σ' H3 => H3 = H2 ∧ σ' = [some (.ref b), some (.int m), none, v, none], ?_, ?_⟩
        · refine ⟨_, rfl, b, _, rfl, dg_rest g1, _, _, rfl, rfl, _, rfl, ?_⟩
          refine ite2 (fun e => ?_) fun e => ⟨rfl, rfl⟩
          refine ⟨_, rfl, b, _, rfl, dg_rest g1, .inl ⟨_, rfl, _, rfl, _, _, rfl, rfl, by omega, ?_⟩⟩
          refine ⟨_, rfl, b, _, rfl, dg_rest g1, _, rfl, _, _, rfl, rfl, ⟨by omega, by omega⟩, _, rfl, b, _, rfl, dp_rest g1, _, rfl, ?_⟩
          obtain ⟨d, hd, hdm⟩ := fmod_nat (x := r') hm0
          show Q (V.int (r'.fmod (m : Nat))) _
          rw [hd]
          exact k d _ (.inl hdm) ⟨_, _, _, _, _, upd_same, by rw [upd_ne hbc.symm]; exact g2⟩ (g3.trans Only.upd)
        · rintro σ' H3 ⟨rfl, rfl⟩
          refine ⟨_, rfl, b, _, rfl, dg_seed g1, _, rfl, b, _, rfl, dg_many g1, _, _, rfl, rfl, .inl ⟨by decide, by decide⟩, _, _, rfl, rfl, _, _, rfl, rfl, _, _, rfl, rfl, .inr ⟨by decide, by decide⟩, .inl ⟨_, rfl, _, _, rfl, rfl, (by show (2147483647 : Int) ≠ 0; decide), ?_⟩⟩
          dsimp only
          generalize hx : ((s' + 7919 * m' + 1) * 48271).fmod 2147483647 = x1
          have x1a : 0 ≤ x1 := by rw [← hx]; exact Int.fmod_nonneg_of_pos _ (by decide)
          have x1b : x1 < 2147483647 := by rw [← hx]; exact Int.fmod_lt_of_pos _ (by decide)
          refine ⟨_, rfl, _, rfl, _, _, rfl, rfl, ⟨by decide, by decide⟩, _, _, rfl, rfl, _, _, rfl, rfl, .inl ⟨by omega, by omega⟩, .inl ⟨_, rfl, _, _, rfl, rfl, (by show (2147483647 : Int) ≠ 0; decide), ?_⟩⟩
          dsimp only
          generalize hy : (x1 * (x1.fdiv 1009 + 69621)).fmod 2147483647 = x2
          have x2a : 0 ≤ x2 := by rw [← hy]; exact Int.fmod_nonneg_of_pos _ (by decide)
          have x2b : x2 < 2147483647 := by rw [← hy]; exact Int.fmod_lt_of_pos _ (by decide)
          refine ⟨_, rfl, _, rfl, _, _, rfl, rfl, ⟨by decide, by decide⟩, _, _, rfl, rfl, _, _, rfl, rfl, .inl ⟨by omega, by omega⟩, .inl ⟨_, rfl, _, _, rfl, rfl, (by show (2147483399 : Int) ≠ 0; decide), ?_⟩⟩
          refine ⟨_, _, rfl, rfl, ⟨by decide, by decide⟩, _, rfl, _, _, rfl, rfl, by omega, ?_⟩
          obtain ⟨d, hd, hdm⟩ := fmod_nat (x := ((x2 * (x2.fdiv 2003 + 40692)).fmod 2147483399).fdiv 7) hm0
          show Q (V.int ((((x2 * (x2.fdiv 2003 + 40692)).fmod 2147483399).fdiv 7).fmod (m : Nat))) _
          rw [hd]
          exact k d _ (.inl hdm) ⟨_, _, _, _, _, g1, g2⟩ g3
end
end K13

set_option Elab.async false
set_option maxRecDepth 100000
set_option maxHeartbeats 4000000
set_option linter.all false
namespace K13
open PySem PySem.Spec PyProof.Rows L2
/-- all but the bag stays -/
def Bs (H H' : Hp) (b : Addr) : Prop := ∀ x o, H x = some o → x ≠ b → H' x = some o
theorem Bs.refl (H : Hp) (b : Addr) : Bs H H b := fun _ _ h _ => h
theorem Bs.trans {H H1 H2 : Hp} {b : Addr} (a : Bs H H1 b) (c : Bs H1 H2 b) : Bs H H2 b := fun x o h n => c x o (a x o h n) n
theorem Only.bs {H H' : Hp} {b : Addr} (h : Only H H' b) : Bs H H' b := fun x o e n => by rw [h x n]; exact e
theorem Same.bs {H H' : Hp} {b : Addr} (h : Same H H') : Bs H H' b := fun x o e _ => h x o e
theorem Bg.same {H H' : Hp} {b c : Addr} (e : Same H H') (h : Bg H b c) : Bg H' b c := by
  obtain ⟨a, r, s, m, ns, h1, h2⟩ := h
  exact ⟨a, r, s, m, ns, e _ _ h1, e _ _ h2⟩
theorem Bg.beside {H : Hp} {b c p : Addr} {o : HO} (h : Bg H b c) (n1 : p ≠ b) (n2 : p ≠ c) : Bg (upd H p o) b c := by
  obtain ⟨a, r, s, m, ns, h1, h2⟩ := h
  exact ⟨a, r, s, m, ns, by rw [upd_ne n1.symm]; exact h1, by rw [upd_ne n2.symm]; exact h2⟩
theorem Bg.tr {H : Hp} {b c p : Addr} (h : Bg H b c) (np : H p = none) : p ≠ b ∧ p ≠ c := by
  obtain ⟨a, r, s, m, ns, h1, h2⟩ := h
  exact ⟨(ne_of_none h1 np).symm, (ne_of_none h2 np).symm⟩
theorem bsL {K : PySem.W.Frag} {H H' : Hp} {b c l : Addr} {xs : List V} (e : Bs H H' b) (B : Bg H b c) (h : SqL K H l xs) : SqL K H' l xs := by
  obtain ⟨_, _, _, _, _, h1, _⟩ := B
  rcases h with (h | ⟨o, h⟩) | h
  · exact .inl (.inl (e _ _ h (ne_of h h1 (by intro z; cases z))))
  · exact .inl (.inr ⟨o, e _ _ h (ne_of h h1 (by intro z; cases z))⟩)
  · exact .inr h
theorem bsT {K : PySem.W.Frag} {H H' : Hp} {b c l : Addr} {xs : List V} (e : Bs H H' b) (B : Bg H b c) (h : SqT K H l xs) : SqT K H' l xs := by
  obtain ⟨_, _, _, _, _, h1, _⟩ := B
  rcases h with (h | ⟨o, h⟩) | h
  · exact .inl (.inl (e _ _ h (ne_of h h1 (by intro z; cases z))))
  · exact .inl (.inr ⟨o, e _ _ h (ne_of h h1 (by intro z; cases z))⟩)
  · exact .inr h
def spBag (K : PySem.W.Frag) : Sp := fun vs H Q _ => ∃ (a : Addr) (ns : List Int), vs = [.ref a] ∧ SqL K H a (ns.map V.int) ∧ ns.length ≤ 63 ∧ ∀ (b c : Addr) (H' : Hp), Same H H' → H b = none → H c = none → Bg H' b c → Q (.ref b) H'
def spOne (K : PySem.W.Frag) : Sp := fun vs H Q _ => ∃ (b c l : Addr) (xs : List V), vs = [.ref b, .ref l] ∧ Bg H b c ∧ SqL K H l xs ∧ xs ≠ [] ∧ xs.length < 1000000 ∧ ∀ (v : V) (H' : Hp), v ∈ xs → Bg H' b c → Only H H' b → Q v H'
def spWords (K : PySem.W.Frag) : Sp := fun vs H Q _ => ∃ (b c tk : Addr) (m : Nat), vs = [.ref b, .int 1, .int m, .ref tk] ∧ Bg H b c ∧ 1 ≤ m ∧ m ≤ 8 ∧ SqL K H tk [] ∧ ∀ (z : Str) (p : Addr) (H' : Hp), isWord z = true → Bg H' b c → Bs H H' b → H p = none → H' p = some (.lst [.str z]) → Q (.ref p) H'
def letters : Str := "abcdefghijklmnopqrstuvwxyz"
theorem letters_at (d : Nat) (h : d < 26) : ∃ c, letters.cps.toList[d]? = some c ∧ lowC c = true := by
  have key : (List.range 26).all (fun d => match letters.cps.toList[d]? with | some c => lowC c | none => false) = true := by decide +kernel
  have := List.all_eq_true.mp key d (List.mem_range.mpr h)
  cases e : letters.cps.toList[d]? with
  | none => rw [e] at this; cases this
  | some c => rw [e] at this; exact ⟨c, rfl, this⟩
theorem joinL_one : ∀ cs : List Nat, TL.joinL [] (cs.map fun c => [c]) = cs
  | [] => rfl
  | [_] => rfl
  | c :: d :: r => by
    have := joinL_one (d :: r)
    show [c] ++ ([] ++ TL.joinL [] ((d :: r).map fun c => [c])) = c :: d :: r
    rw [this]
    rfl
theorem word_of {cs : List Nat} (h0 : 1 ≤ cs.length) (h1 : cs.length ≤ 8) (hc : cs.all lowC = true) : isWord (SX.S cs) = true := by
  unfold isWord
  have e : (SX.S cs).length = cs.length := SX.S_len cs
  have e2 : (SX.S cs).cps.toList = cs := rfl
  rw [e, e2, decide_eq_true (by omega), decide_eq_true (by omega)]
  simpa [List.all_map] using hc
section
variable {P : Program} {w : World} {K : PySem.W.Frag} {mg : Str → Option Value} {base : Heap}
theorem ok_bag {f : Addr} {fd : FuncData} (F : FnP K "_law_bag" "_law_bag" s__law_bag f fd) (T : Tx w K mg) : FnOk P w K mg base CX0 1 f fd p__law_bag (spBag K) := by
  refine F.ok sc__law_bag (fun vs H Q E h => ?_) (fun cdv A outer s H vs Q E hr h => ?_)
  · obtain ⟨a, ns, rfl, _⟩ := h
    rfl
  · obtain ⟨a, ns, rfl, ha, hl, k⟩ := h
    refine ⟨_, PSs.nox (pss_one (ps_ret (pe_disp (pps_cons pe_str (pe_lc (own := [("_law_cell", 1)]) (g := (gName 1)) (by rfl) sc__law_bag.nd (pi_list (pe_slice sl_list (pv 0) po_none (po_some pe_int))) (blkOk_by (N := n__law_bag) (sc := defScope s__law_bag) (by decide +kernel)) (fun _ _ _ _ _ => (pg_name (i := 1) sc__law_bag.nd rfl (.inl rfl))) (fun _ _ _ _ _ => pts_nil) (fun _ _ _ _ _ => (pe_callTy call_int1 (by rfl) T.b_int (by decide +kernel) (pa_cons (pv 1) pa_nil)))) (pps_cons pe_str pe_int (pps_cons pe_str pe_int (pps_cons pe_str pe_int (pps_cons pe_str pe_int pps_nil))))) (by rfl) (by rfl) (fun z => by cases z) (by decide)))), ?_⟩
    intro p np
    have S1 : Same H (upd H p (.dK [])) := Same.new np
    refine ⟨_, rfl, 63, rfl, a, _, rfl, S1.seq ha, fun q nq => ?_⟩
    have ec : cutV (ns.map V.int) none (some 63) = ns.map V.int := by
      unfold cutV
      simp only [HT.sIx, List.drop_zero, Nat.sub_zero]
      exact List.take_of_length_le (by simp; omega)
    rw [ec]
    have S2 := S1.trans (Same.new (o := .lst (ns.map V.int)) nq)
    have hq : upd (upd H p (.dK [])) q (.lst (ns.map V.int)) q = some (.lst (ns.map V.int)) := upd_same
    have hp : upd (upd H p (.dK [])) q (.lst (ns.map V.int)) p = some (.dK []) := by rw [upd_ne (ne_of_none upd_same nq)]; exact upd_same
    generalize upd (upd H p (.dK [])) q (.lst (ns.map V.int)) = H2 at hq hp S2
    refine ⟨q, rfl, ⟨_, SqL.of hq⟩, fun D nD => ?_⟩
    refine lc_list (K := K) (a := q) (xs := ns.map V.int) (fun i H3 => H3 = upd H2 D (.lst ((ns.take i).map V.int))) rfl (fun i H3 _ e => ?_) (fun i x H3 hi e => ?_) (fun H3 e => ?_)
    · subst e
      exact SqL.of (by rw [upd_ne (ne_of_none hq nD)]; exact hq)
    · subst e
      obtain ⟨n, hn, rfl⟩ : ∃ n, ns[i]? = some n ∧ x = V.int n := by
        rw [List.getElem?_map] at hi
        cases e : ns[i]? with
        | none => rw [e] at hi; cases hi
        | some n => rw [e] at hi; exact ⟨n, rfl, (Option.some.inj hi).symm⟩
      refine ⟨rfl, ?_⟩
      refine tYes_ ?_
      refine iteT ?_
      refine ⟨_, rfl, .inl ⟨_, rfl, _, upd_same, small1000 (by rw [List.length_map, List.length_take]; omega), ?_⟩⟩
      rw [upd_upd, take_more hn, List.map_append]
      rfl
    · subst e
      rw [List.length_map, List.take_length]
      have pD : p ≠ D := ne_of_none hp nD
      refine ⟨by rw [upd_ne pD]; exact hp, bagK D 0 0 1 0, rfl, by show 5 ≤ 15; decide, ?_⟩
      refine k p D _ (fun b o hb => ?_) np (S2.free nD) ⟨0, 0, 1, 0, ns, ?_, ?_⟩
      · rw [upd_ne (ne_of_none hb np), upd_ne (ne_of_none (S2 _ _ hb) nD)]
        exact S2 _ _ hb
      · rw [upd_same]
        rfl
      · rw [upd_ne pD.symm, upd_same]
theorem ok_one {f : Addr} {fd : FuncData} (F : FnP K "_law_one" "_law_one" s__law_one f fd) (T : Tx w K mg) (G__law_draw : Def P w K mg base CX0 1 "_law_draw" p__law_draw spDraw) : FnOk P w K mg base CX0 2 f fd p__law_one (spOne K) := by
  refine F.ok sc__law_one (fun vs H Q E h => ?_) (fun cdv A outer s H vs Q E hr h => ?_)
  · obtain ⟨b, c, l, xs, rfl, _⟩ := h
    rfl
  · obtain ⟨b, c, l, xs, rfl, hb, hl, ne, few, k⟩ := h
    refine ⟨_, PSs.nox (pss_one (ps_ret (pe_ix ix_list (pv 1) (pe_fn G__law_draw (hr.mono (by decide)) (by rfl) pass0 (pa_cons (pv 0) (pa_cons (pe_callB call_len_seq (by rfl) T.b_len PySem.boot_len (pa_cons (pv 1) pa_nil)) pa_nil))) (fun _ _ => rfl)))), ?_⟩
    have h0 : 0 < xs.length := List.length_pos_iff.mpr ne
    refine ⟨_, rfl, _, rfl, _, rfl, l, _, rfl, .inl hl, b, c, xs.length, rfl, hb, few, fun d H' hd hb' ho => ?_⟩
    have hd' : d < xs.length := by omega
    exact ⟨l, xs, d, xs[d], rfl, rfl, bsL ho.bs hb hl, atI_nat (by simp [hd']), k _ _ (List.getElem_mem hd') hb' ho⟩
theorem ok_words {f : Addr} {fd : FuncData} (F : FnP K "_law_words" "_law_words" s__law_words f fd) (T : Tx w K mg) (G__law_draw : Def P w K mg base CX0 1 "_law_draw" p__law_draw spDraw) : FnOk P w K mg base CX0 2 f fd p__law_words (spWords K) := by
  refine F.ok sc__law_words (fun vs H Q E h => ?_) (fun cdv A outer s H vs Q E hr h => ?_)
  · obtain ⟨b, c, tk, m, rfl, _⟩ := h
    rfl
  · obtain ⟨b, c, tk, m, rfl, hb, m1, m8, htk, k⟩ := h
    refine ⟨_, PSs.nox (pss_cons (ps_set (i := 4) sc__law_words.nd rfl (.inr rfl) pe_str)
      (pss_cons (ps_set (i := 5) sc__law_words.nd rfl (.inl rfl) (pe_lst pa_nil))
      (pss_cons (ps_for PassesOwn.never rfl (pi_range1 (by rfl) T.b_range (pa_cons (pv 1) pa_nil)) (pg_name (i := 6) sc__law_words.nd rfl (.inl rfl)) (pss_cons (ps_set (i := 7) sc__law_words.nd rfl (.inl rfl) (pe_op op_add pe_int (pe_fn G__law_draw (hr.mono (by decide)) (by rfl) pass0 (pa_cons (pv 0) (pa_cons (pv 2) pa_nil)))))
      (pss_cons (ps_set (i := 8) sc__law_words.nd rfl (.inl rfl) (pe_join pe_str (pe_lc (own := [("_law_place", 11)]) (g := (gName 11)) (by rfl) sc__law_words.nd (pi_range1 (by rfl) T.b_range (pa_cons (pv 7) pa_nil)) (blkOk_by (N := n__law_words) (sc := defScope s__law_words) (by decide +kernel)) (fun _ _ _ _ _ => (pg_name (i := 11) sc__law_words.nd rfl (.inl rfl))) (fun _ _ _ _ _ => pts_nil) (fun _ _ _ _ _ => (pe_ix ix_str (pv 4) (pe_fn G__law_draw (hr.mono (by decide)) (by rfl) pass0 (pa_cons (pv 0) (pa_cons pe_int pa_nil))) (fun _ _ => rfl))))))
      (pss_cons (ps_for PassesOwn.never rfl (pi_range1 (by rfl) T.b_range (pa_cons pe_int pa_nil)) (pg_name (i := 9) sc__law_words.nd rfl (.inl rfl)) (pss_one (ps_if (PW.pt (pw_or (pt_cmpR op_in_seq (pv 8) (pv 3) (by rfl)) (pw_or1 (pt_cmpR op_in_seq (pv 8) (pv 5) (by rfl))))) (pss_cons ps_never
      (pss_one ps_never)) pss_nil)))
      (pss_one (ps_expr (pe_bm PySem.F.plainAttrs_list PySem.F.slot_list_append PySem.F.type_list_append mt_append (pv 5) (pa_cons (pv 8) pa_nil))))))))
      (pss_one (ps_ret (pv 5)))))), ?_⟩
    refine ⟨by show 0 ≤ sizeLine; decide, fun p np => ?_⟩
    obtain ⟨pb, pc⟩ := hb.tr np
    have S1 : Same H (upd H p (.lst [])) := Same.new np
    have hb1 := hb.same S1
    have hp1 : upd H p (.lst []) p = some (.lst []) := upd_same
    generalize upd H p (.lst []) = H1 at S1 hb1 hp1
    refine ⟨_, rfl, 1, rfl, by decide, by decide, ?_⟩
    refine for_range (lo := 0) (n := 1) (fun i σ H' => (i = 0 → H' = H1 ∧ ∃ v6 v7 v8 v9 v10 v11, σ = [some (.ref b), some (.int 1), some (.int m), some (.ref tk), some (.str letters), some (.ref p), v6, v7, v8, v9, v10, v11]) ∧
      (i = 1 → ∃ z v6 v7 v8 v9 v10 v11, σ = [some (.ref b), some (.int 1), some (.int m), some (.ref tk), some (.str letters), some (.ref p), v6, v7, v8, v9, v10, v11] ∧ isWord z = true ∧ Bg H' b c ∧ Bs H H' b ∧ H' p = some (.lst [.str z])))
      ⟨fun _ => ⟨rfl, _, _, _, _, _, _, rfl⟩, fun z => by cases z⟩ (fun i σ H' hi q => ?_) (fun σ H' q => ?_)
    · have i0 : i = 0 := by omega
      subst i0
      obtain ⟨rfl, v6, v7, v8, v9, v10, v11, rfl⟩ := q.1 rfl
      refine ⟨_, rfl, _, rfl, b, c, m, rfl, hb1, by omega, fun d H2 hd hb2 ho2 => ⟨_, _, rfl, rfl, ?_⟩⟩
      have bs2 : Bs H H2 b := (Same.bs S1).trans ho2.bs
      have hp2 : H2 p = some (.lst []) := by rw [ho2 p pb]; exact hp1
      refine ⟨⟨_, rfl⟩, ?_⟩
      have sz : 1 ≤ (1 + (d : Int)).toNat ∧ (1 + (d : Int)).toNat ≤ 8 := by omega
      refine ⟨_, rfl, 1 + (d : Int), rfl, by omega, by omega, fun D nD => ?_⟩
      obtain ⟨Db, Dc⟩ := hb2.tr nD
      refine lc_range (lo := 0) (n := (1 + (d : Int)).toNat) (fun i H3 => ∃ cs : List Nat, cs.length = i ∧ cs.all lowC = true ∧ H3 D = some (.lst (cs.map fun c => V.str ⟨#[c]⟩)) ∧ Bg H3 b c ∧ Bs H2 H3 b)
        ⟨[], rfl, rfl, upd_same, hb2.beside Db Dc, fun x o hx _ => by rw [upd_ne (ne_of_none hx nD)]; exact hx⟩ (fun i H3 hi q => ?_) (fun H3 q => ?_)
      · obtain ⟨cs, hcl, hca, hD, hb3, bs3⟩ := q
        refine ⟨rfl, ?_⟩
        refine tYes_ ?_
        refine iteT ?_
        refine ⟨_, rfl, _, rfl, b, c, 26, rfl, hb3, by decide, fun d2 H4 hd2 hb4 ho4 => ?_⟩
        have hd3 : d2 < 26 := by omega
        obtain ⟨ch, hch, hlow⟩ := letters_at d2 hd3
        have hD4 : H4 D = some (.lst (cs.map fun c => V.str ⟨#[c]⟩)) := by rw [ho4 D Db]; exact hD
        refine ⟨letters, d2, ch, rfl, rfl, by decide +kernel, atI_nat hch, _, hD4, small1000 (by rw [List.length_map]; omega), cs ++ [ch], by simp [hcl], by simp [hca, hlow], ?_, hb4.beside Db Dc, fun x o hx hxb => ?_⟩
        · rw [upd_same, List.map_append]
          rfl
        · rw [upd_ne (ne_of_none hx nD)]
          exact ho4.bs x o (bs3 x o hx hxb) hxb
      · obtain ⟨cs, hcl, hca, hD, hb3, bs3⟩ := q
        have e1 : (cs.map fun c => V.str ⟨#[c]⟩) = (cs.map fun c => (⟨#[c]⟩ : Str)).map V.str := by rw [List.map_map]; rfl
        have e2 : (cs.map fun c => (⟨#[c]⟩ : Str)) = (cs.map fun c => [c]).map SX.S := by rw [List.map_map]; rfl
        refine ⟨"", D, cs.map fun c => (⟨#[c]⟩ : Str), rfl, rfl, .inl (SqL.of (by rw [← e1]; exact hD)), ?_, ?_⟩
        · have : ((cs.map fun c => (⟨#[c]⟩ : Str)).map (·.length)).sum ≤ cs.length * 1 := by
            clear hcl hca hD e1 e2
            induction cs with
            | nil => decide
            | cons a l ih =>
              simp only [List.map_cons, List.sum_cons, List.length_cons]
              have : (⟨#[a]⟩ : Str).length = 1 := rfl
              rw [this]
              omega
          have l0 : ("" : Str).length = 0 := by decide +kernel
          rw [l0]
          omega
        · have ez : Txt.join "" (cs.map fun c => (⟨#[c]⟩ : Str)) = SX.S cs := by
            have := SX.join_S [] (cs.map fun c => [c])
            rw [joinL_one] at this
            rw [e2]
            exact this
          have hw : isWord (SX.S cs) = true := word_of (by omega) (by omega) hca
          rw [ez]
          have hp3 : H3 p = some (.lst []) := bs3 p _ hp2 pb
          have htk3 : SqL K H3 tk [] := bsL (bs2.trans bs3) hb htk
          refine ⟨26, rfl, by decide, by decide, ?_⟩
          refine for_range (lo := 0) (n := 26) (fun i σ H' => H' = H3 ∧ ∃ v9, σ = [some (.ref b), some (.int 1), some (.int m), some (.ref tk), some (.str letters), some (.ref p), some (.int 0), some (.int (1 + (d : Int))), some (.str (SX.S cs)), v9, v10, v11])
            ⟨rfl, _, rfl⟩ (fun i σ H' hi q => ?_) (fun σ H' q => ?_)
          · obtain ⟨rfl, v9, rfl⟩ := q
            refine ⟨_, rfl, _, rfl, tk, [], rfl, .inl htk3, rfl, rfl, _, rfl, ?_⟩
            refine iteF ⟨_, rfl, _, rfl, p, [], rfl, .inl (SqL.of hp3), rfl, rfl, _, rfl, ?_⟩
            refine iteF ⟨rfl, _, rfl⟩
          · obtain ⟨rfl, v9, rfl⟩ := q
            refine ⟨_, rfl, Or.inl ⟨rfl, _, SqL.of hp3⟩, _, rfl, p, [], _, rfl, rfl, hp3, by rw [sizeLine_eq]; decide, (fun z => by cases z), fun _ => ?_⟩
            refine ⟨SX.S cs, _, _, _, _, _, _, rfl, hw, hb3.beside pb pc, fun x o hx hxb => ?_, ?_⟩
            · rw [upd_ne (ne_of_none hx np)]
              exact bs3 x o (bs2 x o hx hxb) hxb
            · exact upd_same
    · obtain ⟨z, v6, v7, v8, v9, v10, v11, rfl, hz, hb2, bs2, hp2⟩ := q.2 rfl
      refine ⟨_, rfl, ?_⟩
      exact k z p H' hz hb2 bs2 np hp2
end
end K13

set_option Elab.async false
set_option maxRecDepth 100000
set_option maxHeartbeats 4000000
set_option linter.all false
namespace K13
open PySem PySem.Spec PyProof.Rows L2
/-- the same data, at most n deep -/
inductive SameV (K : PySem.W.Frag) (H : Hp) : Nat → V → V → Prop where
  | int {n : Nat} (i : Int) : SameV K H (n + 1) (.int i) (.int i)
  | str {n : Nat} (z : Str) : SameV K H (n + 1) (.str z) (.str z)
  | lst {n : Nat} {a b : Addr} {xs ys : List V} (ha : SqL K H a xs) (hb : SqL K H b ys) (few : xs.length ≤ 1000) (el : xs.length = ys.length) (h : ∀ (i : Nat) (x y : V), xs[i]? = some x → ys[i]? = some y → SameV K H n x y) : SameV K H (n + 1) (.ref a) (.ref b)
  | tup {n : Nat} {a b : Addr} {xs ys : List V} (ha : SqT K H a xs) (hb : SqT K H b ys) (few : xs.length ≤ 1000) (el : xs.length = ys.length) (h : ∀ (i : Nat) (x y : V), xs[i]? = some x → ys[i]? = some y → SameV K H n x y) : SameV K H (n + 1) (.ref a) (.ref b)
theorem SameV.same {K : PySem.W.Frag} {H H' : Hp} (e : Same H H') {n : Nat} {v w : V} (h : SameV K H n v w) : SameV K H' n v w := by
  induction h with
  | int i => exact .int i
  | str z => exact .str z
  | lst ha hb few el _ ih => exact .lst (e.seq ha) (e.seq hb) few el ih
  | tup ha hb few el _ ih => exact .tup (sameT e ha) (sameT e hb) few el ih
def spSame (K : PySem.W.Frag) (n : Nat) : Sp := fun vs H Q _ => ∃ v w, vs = [v, w] ∧ SameV K H n v w ∧ ∀ H', Same H H' → Q (.bl true) H'
theorem kitA {K : PySem.W.Frag} {t a b : Value} {x y : Bool} (h1 : PySem.W.kitOne K t a = some x) (h2 : PySem.W.kitOne K t b = some y) : PySem.W.kitAny K t [a, b] = some (x || y) := by
  simp only [PySem.W.kitAny, h1, h2]
  cases x <;> cases y <;> rfl
section
variable {P : Program} {w : World} {K : PySem.W.Frag} {mg : Str → Option Value} {base : Heap}
theorem ok_same {n : Nat} {f : Addr} {fd : FuncData} (F : FnP K "_law_same" "_law_same" s__law_same f fd) (T : Tx w K mg) (G__law_same : Def P w K mg base CX0 n "_law_same" p__law_same (spSame K n)) : FnOk P w K mg base CX0 (n + 1) f fd p__law_same (spSame K (n + 1)) := by
  refine F.ok sc__law_same (fun vs H Q E h => ?_) (fun cdv A outer s H vs Q E hr h => ?_)
  · obtain ⟨v, w, rfl, _⟩ := h
    rfl
  · obtain ⟨v, w, rfl, hs, k⟩ := h
    refine ⟨_, PSs.nox (pss_cons (ps_if (pt_val (pe_callB call_isiT (by rfl) T.b_isinstance (by decide +kernel) (pa_cons (pv 1) (pa_cons (pe_tup (pa_cons (pe_bltn (v := .ty "tuple") (u := .type "tuple") (by rfl) T.b_tuple (by decide +kernel) rfl) (pa_cons (pe_bltn (v := .ty "list") (u := .type "list") (by rfl) T.b_list (by decide +kernel) rfl) pa_nil))) pa_nil)))) (pss_cons (ps_if (PW.pt (pw_or (pt_not (pt_val (pe_callB call_isiT (by rfl) T.b_isinstance (by decide +kernel) (pa_cons (pv 0) (pa_cons (pe_tup (pa_cons (pe_bltn (v := .ty "tuple") (u := .type "tuple") (by rfl) T.b_tuple (by decide +kernel) rfl) (pa_cons (pe_bltn (v := .ty "list") (u := .type "list") (by rfl) T.b_list (by decide +kernel) rfl) pa_nil))) pa_nil))))) (pw_or1 (pt_cmpR op_ne (pe_callB call_len_seq (by rfl) T.b_len PySem.boot_len (pa_cons (pv 0) pa_nil)) (pe_callB call_len_seq (by rfl) T.b_len PySem.boot_len (pa_cons (pv 1) pa_nil)) (nomark _))))) (pss_one (ps_ret pe_bl)) pss_nil)
      (pss_cons (ps_if (pt_cmpR op_ne (pe_callB call_isi (by rfl) T.b_isinstance (by decide +kernel) (pa_cons (pv 0) (pa_cons (pe_bltn (v := .ty "tuple") (u := .type "tuple") (by rfl) T.b_tuple (by decide +kernel) rfl) pa_nil))) (pe_callB call_isi (by rfl) T.b_isinstance (by decide +kernel) (pa_cons (pv 1) (pa_cons (pe_bltn (v := .ty "tuple") (u := .type "tuple") (by rfl) T.b_tuple (by decide +kernel) rfl) pa_nil))) (nomark _)) (pss_one (ps_ret pe_bl)) pss_nil)
      (pss_one (ps_ret (pe_cmpR op_notIn_seq pe_bl (pe_lc (own := [("_law_k", 2)]) (g := (gName 2)) (by rfl) sc__law_same.nd (pi_range1 (by rfl) T.b_range (pa_cons (pe_callB call_len_seq (by rfl) T.b_len PySem.boot_len (pa_cons (pv 1) pa_nil)) pa_nil)) (blkOk_by (N := n__law_same) (sc := defScope s__law_same) (by decide +kernel)) (fun _ _ _ _ _ => (pg_name (i := 2) sc__law_same.nd rfl (.inl rfl))) (fun _ _ _ _ _ => pts_nil) (fun _ _ _ _ _ => (pe_fn G__law_same (hr.mono (Nat.le_refl _)) (by rfl) pass0 (pa_cons (pe_ix (show IxR _ (rIx K) from ix_seq) (pv 0) (pv 2) (fun _ _ => rfl)) (pa_cons (pe_ix (show IxR _ (rIx K) from ix_seq) (pv 1) (pv 2) (fun _ _ => rfl)) pa_nil))))) (by rfl)))))) pss_nil)
      (pss_cons (ps_if (PW.pt (pw_or (pt_cmpR op_isN (pv 1) pe_non (nomark _)) (pw_or1 (pt_cmpR op_isN (pv 0) pe_non (nomark _))))) (pss_one (ps_ret (pe_and (pe_cmpR op_isN (pv 1) pe_non (nomark _)) (pe_one (pe_cmpR op_isN (pv 0) pe_non (nomark _)))))) pss_nil)
      (pss_cons (ps_if (pt_cmpR op_ne (pe_callB call_isi (by rfl) T.b_isinstance (by decide +kernel) (pa_cons (pv 0) (pa_cons (pe_bltn (v := .ty "bool") (u := .type "bool") (by rfl) T.b_bool (by decide +kernel) rfl) pa_nil))) (pe_callB call_isi (by rfl) T.b_isinstance (by decide +kernel) (pa_cons (pv 1) (pa_cons (pe_bltn (v := .ty "bool") (u := .type "bool") (by rfl) T.b_bool (by decide +kernel) rfl) pa_nil))) (nomark _)) (pss_one (ps_ret pe_bl)) pss_nil)
      (pss_cons (ps_if (pt_cmpR op_ne (pe_callB call_isi (by rfl) T.b_isinstance (by decide +kernel) (pa_cons (pv 0) (pa_cons (pe_bltn (v := .ty "str") (u := .type "str") (by rfl) T.b_str (by decide +kernel) rfl) pa_nil))) (pe_callB call_isi (by rfl) T.b_isinstance (by decide +kernel) (pa_cons (pv 1) (pa_cons (pe_bltn (v := .ty "str") (u := .type "str") (by rfl) T.b_str (by decide +kernel) rfl) pa_nil))) (nomark _)) (pss_one (ps_ret pe_bl)) pss_nil)
      (pss_one (ps_ret (pe_and (pe_callB call_isiT (by rfl) T.b_isinstance (by decide +kernel) (pa_cons (pv 0) (pa_cons (pe_tup (pa_cons (pe_bltn (v := .ty "int") (u := .type "int") (by rfl) T.b_int (by decide +kernel) rfl) (pa_cons (pe_bltn (v := .ty "str") (u := .type "str") (by rfl) T.b_str (by decide +kernel) rfl) pa_nil))) pa_nil))) (pe_one (pe_cmpR op_eq (pv 0) (pv 1) (nomark _)))))))))), ?_⟩
    cases hs with
    | int i =>
      refine ⟨_, rfl, by show 2 ≤ sizeLine; decide, fun tp ntp => ⟨.int i, tp, _, _, _, _, rfl, upd_same, .cons (.ty "tuple") (.cons (.ty "list") .nil), .base (.int i), kitA (x := false) (y := false) (kit_ty (by decide +kernel)) (kit_ty (by decide +kernel)), _, rfl, ?_⟩⟩
      refine iteF ?_
      refine ⟨_, rfl, rfl, _, rfl, ?_⟩
      refine iteF ⟨_, rfl, rfl, _, rfl, ?_⟩
      refine iteF ?_
      refine ⟨_, rfl, .int i, .ty "bool", _, _, false, rfl, .ty _, .base (.int i), kit_ty (by decide +kernel), _, rfl, .int i, .ty "bool", _, _, false, rfl, .ty _, .base (.int i), kit_ty (by decide +kernel), rfl, _, rfl, ?_⟩
      refine iteF ?_
      refine ⟨_, rfl, .int i, .ty "str", _, _, false, rfl, .ty _, .base (.int i), kit_ty (by decide +kernel), _, rfl, .int i, .ty "str", _, _, false, rfl, .ty _, .base (.int i), kit_ty (by decide +kernel), rfl, _, rfl, ?_⟩
      refine iteF ?_
      refine ⟨_, rfl, by show 2 ≤ sizeLine; decide, fun tq ntq => ⟨.int i, tq, _, _, _, _, rfl, upd_same, .cons (.ty "int") (.cons (.ty "str") .nil), .base (.int i), kitA (x := true) (y := false) (kit_ty (by decide +kernel)) (kit_ty (by decide +kernel)), _, rfl, ?_⟩⟩
      refine iteT ⟨_, rfl, _, rfl, rfl, ?_⟩
      show Q (.bl (decide (V.int i = V.int i))) _
      rw [decide_eq_true rfl]
      exact k _ ((Same.new ntp).trans (Same.new ntq))
    | str z =>
      refine ⟨_, rfl, by show 2 ≤ sizeLine; decide, fun tp ntp => ⟨.str z, tp, _, _, _, _, rfl, upd_same, .cons (.ty "tuple") (.cons (.ty "list") .nil), .base (.str z), kitA (x := false) (y := false) (kit_ty (by decide +kernel)) (kit_ty (by decide +kernel)), _, rfl, ?_⟩⟩
      refine iteF ?_
      refine ⟨_, rfl, rfl, _, rfl, ?_⟩
      refine iteF ⟨_, rfl, rfl, _, rfl, ?_⟩
      refine iteF ?_
      refine ⟨_, rfl, .str z, .ty "bool", _, _, false, rfl, .ty _, .base (.str z), kit_ty (by decide +kernel), _, rfl, .str z, .ty "bool", _, _, false, rfl, .ty _, .base (.str z), kit_ty (by decide +kernel), rfl, _, rfl, ?_⟩
      refine iteF ?_
      refine ⟨_, rfl, .str z, .ty "str", _, _, true, rfl, .ty _, .base (.str z), kit_ty (by decide +kernel), _, rfl, .str z, .ty "str", _, _, true, rfl, .ty _, .base (.str z), kit_ty (by decide +kernel), rfl, _, rfl, ?_⟩
      refine iteF ?_
      refine ⟨_, rfl, by show 2 ≤ sizeLine; decide, fun tq ntq => ⟨.str z, tq, _, _, _, _, rfl, upd_same, .cons (.ty "int") (.cons (.ty "str") .nil), .base (.str z), kitA (x := false) (y := true) (kit_ty (by decide +kernel)) (kit_ty (by decide +kernel)), _, rfl, ?_⟩⟩
      refine iteT ⟨_, rfl, _, rfl, rfl, ?_⟩
      show Q (.bl (decide (V.str z = V.str z))) _
      rw [decide_eq_true rfl]
      exact k _ ((Same.new ntp).trans (Same.new ntq))
    | lst ha hb few el hh =>
      rename_i a b xs ys
      refine ⟨_, rfl, by show 2 ≤ sizeLine; decide, fun tp ntp => ⟨.ref b, tp, _, _, _, _, rfl, upd_same, .cons (.ty "tuple") (.cons (.ty "list") .nil), tyL ((Same.new ntp).seq hb), kitA (x := false) (y := true) (kit_ty (by decide +kernel)) (kit_ty (by decide +kernel)), _, rfl, ?_⟩⟩
      have S1 : Same H (upd H tp (.tup [V.ty "tuple", V.ty "list"])) := Same.new ntp
      generalize upd H tp (.tup [V.ty "tuple", V.ty "list"]) = H1 at S1
      refine iteT ⟨_, rfl, by show 2 ≤ sizeLine; decide, fun tq ntq => ⟨.ref a, tq, _, _, _, _, rfl, upd_same, .cons (.ty "tuple") (.cons (.ty "list") .nil), tyL ((S1.trans (Same.new ntq)).seq ha), kitA (x := false) (y := true) (kit_ty (by decide +kernel)) (kit_ty (by decide +kernel)), _, rfl, ?_⟩⟩
      have S2 : Same H (upd H1 tq (.tup [V.ty "tuple", V.ty "list"])) := S1.trans (Same.new ntq)
      generalize upd H1 tq (.tup [V.ty "tuple", V.ty "list"]) = H2 at S2
      have ha2 := S2.seq ha
      have hb2 := S2.seq hb
      refine iteF ⟨_, rfl, a, _, rfl, .inl ha2, _, rfl, b, _, rfl, .inl hb2, rfl, _, rfl, ?_⟩
      refine iteF' (by rw [el, decide_eq_true rfl]; rfl) ?_
      refine ⟨_, rfl, .ref a, .ty "tuple", _, _, false, rfl, .ty _, tyL ha2, kit_ty (by decide +kernel), _, rfl, .ref b, .ty "tuple", _, _, false, rfl, .ty _, tyL hb2, kit_ty (by decide +kernel), rfl, _, rfl, ?_⟩
      refine iteF ?_
      refine ⟨_, rfl, b, _, rfl, .inl hb2, (ys.length : Int), rfl, by omega, by omega, fun D nD => ?_⟩
      have SD := S2.trans (Same.new (o := .lst []) nD)
      refine lc_range (lo := 0) (n := ys.length) (fun i H3 => Same H2 H3 ∧ H3 D = some (.lst ((List.replicate i true).map V.bl))) ⟨Same.new nD, upd_same⟩ (fun i H3 hi q => ?_) (fun H3 q => ?_)
      · obtain ⟨S3, hD⟩ := q
        refine ⟨rfl, ?_⟩
        refine tYes_ ?_
        refine iteT ?_
        have e0 : (0 + (i : Int)) = (i : Int) := by omega
        have hx : xs[i]? = some (xs[i]'(by omega)) := List.getElem?_eq_getElem (by omega)
        have hy : ys[i]? = some ys[i] := List.getElem?_eq_getElem hi
        refine ⟨_, rfl, _, rfl, .inl ⟨a, xs, _, _, rfl, rfl, (S2.trans S3).seq ha, (by rw [e0]; exact atI_nat hx), _, rfl, _, rfl, .inl ⟨b, ys, _, _, rfl, rfl, (S2.trans S3).seq hb, (by rw [e0]; exact atI_nat hy), ?_⟩⟩⟩
        refine ⟨_, _, rfl, (hh i _ _ hx hy).same (S2.trans S3), fun H4 S4 => ⟨_, S4 _ _ hD, small1000 (by rw [List.length_map, List.length_replicate]; omega), fun x o hx0 => ?_, ?_⟩⟩
        · rw [upd_ne (ne_of_none hx0 nD)]
          exact S4 _ _ (S3 _ _ hx0)
        · rw [upd_same, List.replicate_succ', List.map_append]
          rfl
      · obtain ⟨S3, hD⟩ := q
        refine ⟨D, _, rfl, .inl (SqL.of hD), rfl, ?_, ?_⟩
        · rw [List.all_map]
          simp [flatV]
        · have e : (!inV (.bl false) ((List.replicate ys.length true).map V.bl)) = true := by
            rw [inV, List.any_map]
            simp [eqV]
          show Q (.bl (!inV (.bl false) ((List.replicate ys.length true).map V.bl))) H3
          rw [e]
          exact k _ (S2.trans S3)
    | tup ha hb few el hh =>
      rename_i a b xs ys
      refine ⟨_, rfl, by show 2 ≤ sizeLine; decide, fun tp ntp => ⟨.ref b, tp, _, _, _, _, rfl, upd_same, .cons (.ty "tuple") (.cons (.ty "list") .nil), tyT (sameT (Same.new ntp) hb), kitA (x := true) (y := false) (kit_ty (by decide +kernel)) (kit_ty (by decide +kernel)), _, rfl, ?_⟩⟩
      have S1 : Same H (upd H tp (.tup [V.ty "tuple", V.ty "list"])) := Same.new ntp
      generalize upd H tp (.tup [V.ty "tuple", V.ty "list"]) = H1 at S1
      refine iteT ⟨_, rfl, by show 2 ≤ sizeLine; decide, fun tq ntq => ⟨.ref a, tq, _, _, _, _, rfl, upd_same, .cons (.ty "tuple") (.cons (.ty "list") .nil), tyT (sameT (S1.trans (Same.new ntq)) ha), kitA (x := true) (y := false) (kit_ty (by decide +kernel)) (kit_ty (by decide +kernel)), _, rfl, ?_⟩⟩
      have S2 : Same H (upd H1 tq (.tup [V.ty "tuple", V.ty "list"])) := S1.trans (Same.new ntq)
      generalize upd H1 tq (.tup [V.ty "tuple", V.ty "list"]) = H2 at S2
      have ha2 := sameT S2 ha
      have hb2 := sameT S2 hb
      refine iteF ⟨_, rfl, a, _, rfl, .inr ha2, _, rfl, b, _, rfl, .inr hb2, rfl, _, rfl, ?_⟩
      refine iteF' (by rw [el, decide_eq_true rfl]; rfl) ?_
      refine ⟨_, rfl, .ref a, .ty "tuple", _, _, true, rfl, .ty _, tyT ha2, kit_ty (by decide +kernel), _, rfl, .ref b, .ty "tuple", _, _, true, rfl, .ty _, tyT hb2, kit_ty (by decide +kernel), rfl, _, rfl, ?_⟩
      refine iteF ?_
      refine ⟨_, rfl, b, _, rfl, .inr hb2, (ys.length : Int), rfl, by omega, by omega, fun D nD => ?_⟩
      have SD := S2.trans (Same.new (o := .lst []) nD)
      refine lc_range (lo := 0) (n := ys.length) (fun i H3 => Same H2 H3 ∧ H3 D = some (.lst ((List.replicate i true).map V.bl))) ⟨Same.new nD, upd_same⟩ (fun i H3 hi q => ?_) (fun H3 q => ?_)
      · obtain ⟨S3, hD⟩ := q
        refine ⟨rfl, ?_⟩
        refine tYes_ ?_
        refine iteT ?_
        have e0 : (0 + (i : Int)) = (i : Int) := by omega
        have hx : xs[i]? = some (xs[i]'(by omega)) := List.getElem?_eq_getElem (by omega)
        have hy : ys[i]? = some ys[i] := List.getElem?_eq_getElem hi
        refine ⟨_, rfl, _, rfl, .inr <| .inl ⟨a, xs, _, _, rfl, rfl, sameT (S2.trans S3) ha, (by rw [e0]; exact atI_nat hx), _, rfl, _, rfl, .inr <| .inl ⟨b, ys, _, _, rfl, rfl, sameT (S2.trans S3) hb, (by rw [e0]; exact atI_nat hy), ?_⟩⟩⟩
        refine ⟨_, _, rfl, (hh i _ _ hx hy).same (S2.trans S3), fun H4 S4 => ⟨_, S4 _ _ hD, small1000 (by rw [List.length_map, List.length_replicate]; omega), fun x o hx0 => ?_, ?_⟩⟩
        · rw [upd_ne (ne_of_none hx0 nD)]
          exact S4 _ _ (S3 _ _ hx0)
        · rw [upd_same, List.replicate_succ', List.map_append]
          rfl
      · obtain ⟨S3, hD⟩ := q
        refine ⟨D, _, rfl, .inl (SqL.of hD), rfl, ?_, ?_⟩
        · rw [List.all_map]
          simp [flatV]
        · have e : (!inV (.bl false) ((List.replicate ys.length true).map V.bl)) = true := by
            rw [inV, List.any_map]
            simp [eqV]
          show Q (.bl (!inV (.bl false) ((List.replicate ys.length true).map V.bl))) H3
          rw [e]
          exact k _ (S2.trans S3)
end
end K13

set_option Elab.async false
set_option maxRecDepth 100000
set_option maxHeartbeats 4000000
set_option linter.all false
namespace K13
open PySem PySem.Spec PyProof.Rows L2
/-- only the bag has changed, and what is new -/
structure WS (H0 H : Hp) (b c : Addr) : Prop where
  bg : Bg H b c
  bs : Bs H0 H b
theorem WS.of {H : Hp} {b c : Addr} (h : Bg H b c) : WS H H b c := ⟨h, Bs.refl H b⟩
theorem WS.new {H0 H : Hp} {b c p : Addr} {o : HO} (h : WS H0 H b c) (n : H p = none) : WS H0 (upd H p o) b c := ⟨h.bg.same (Same.new n), h.bs.trans (Same.bs (Same.new n))⟩
theorem WS.same {H0 H H' : Hp} {b c : Addr} (h : WS H0 H b c) (s : Same H H') : WS H0 H' b c := ⟨h.bg.same s, h.bs.trans (Same.bs s)⟩
theorem WS.to {H0 H H' : Hp} {b c : Addr} (h : WS H0 H b c) (g : Bg H' b c) (s : Bs H H' b) : WS H0 H' b c := ⟨g, h.bs.trans s⟩
theorem WS.lst {H0 H : Hp} {b c a : Addr} {xs : List V} (h : WS H0 H b c) (hb : Bg H0 b c) (ha : H0 a = some (.lst xs)) : H a = some (.lst xs) := by
  refine h.bs _ _ ha fun z => ?_
  obtain ⟨_, _, _, _, _, h1, _⟩ := hb
  rw [z, h1] at ha
  cases ha
/-- a token that has a form -/
def GoodV (K : PySem.W.Frag) (H : Hp) (v : V) : Prop := ∃ t, TokAt K H v t ∧ okW t
theorem GoodV.same {K : PySem.W.Frag} {H H' : Hp} {v : V} (e : Same H H') (h : GoodV K H v) : GoodV K H' v := by
  obtain ⟨t, h1, h2⟩ := h
  exact ⟨t, h1.same e, h2⟩
theorem GoodV.bs {K : PySem.W.Frag} {H H' : Hp} {b c : Addr} {v : V} (e : Bs H H' b) (g : Bg H b c) (h : GoodV K H v) : GoodV K H' v := by
  obtain ⟨t, ⟨a, rfl, h1⟩, h2⟩ := h
  exact ⟨t, ⟨a, rfl, bsT e g h1⟩, h2⟩
def AllG (K : PySem.W.Frag) (H : Hp) (ys : List V) : Prop := ∀ y ∈ ys, GoodV K H y
theorem AllG.nil {K : PySem.W.Frag} {H : Hp} : AllG K H [] := fun y hy => by cases hy
theorem AllG.same {K : PySem.W.Frag} {H H' : Hp} {ys : List V} (e : Same H H') (h : AllG K H ys) : AllG K H' ys := fun y hy => (h y hy).same e
theorem AllG.bs {K : PySem.W.Frag} {H H' : Hp} {b c : Addr} {ys : List V} (e : Bs H H' b) (g : Bg H b c) (h : AllG K H ys) : AllG K H' ys := fun y hy => (h y hy).bs e g
theorem AllG.tup {K : PySem.W.Frag} {H : Hp} {ys : List V} {a : Addr} {t : Tok} (h : AllG K H ys) (n : H a = none) (w : okW t) : AllG K (upd H a (.tup t.vals)) (ys ++ [.ref a]) := fun y hy => by
  rcases List.mem_append.mp hy with q | q
  · exact (h y q).same (Same.new n)
  · rw [List.mem_singleton.mp q]
    exact ⟨t, ⟨a, rfl, SqT.of upd_same⟩, w⟩
theorem AllG.pick {K : PySem.W.Frag} {H : Hp} {ys : List V} {i : Nat} (h : AllG K H ys) (hi : i < ys.length) : ∃ v, ys[i]? = some v ∧ GoodV K H v := ⟨_, List.getElem?_eq_getElem hi, h _ (List.getElem_mem hi)⟩
theorem okW1 {t : Tok} (h : (t.words.all isWord) = true) : okW t := fun z hz => List.all_eq_true.mp h z hz
def spWord (K : PySem.W.Frag) : Sp := fun vs H Q _ => ∃ (b c : Addr), vs = [.ref b] ∧ Bg H b c ∧ ∀ (z : Str) (H' : Hp), isWord z = true → Bg H' b c → Bs H H' b → Q (.str z) H'
/-- the things of a law's walk: "gone" for what is not open any more -/
def thV (s : S) : List V := (List.range s.kinds.length).map fun i => (kindAt s (i : Nat)).getD (.str "gone")
def spToken (K : PySem.W.Frag) : Sp := fun vs H Q _ => ∃ (b c g : Addr) (s : S), vs = [.ref b, .ref g] ∧ Bg H b c ∧ H g = some (.lst (thV s)) ∧ s.kinds.length ≤ 300 ∧ ∀ (v : V) (H' : Hp), GoodV K H' v → Bg H' b c → Bs H H' b → Q v H'
theorem thV_len (s : S) : (thV s).length = s.kinds.length := by simp [thV]
theorem thV_get {s : S} {i : Nat} (h : i < s.kinds.length) : (thV s)[i]? = some ((kindAt s (i : Nat)).getD (.str "gone")) := by
  simp [thV, h]
theorem th_str {s : S} {i : Nat} (h : i < s.kinds.length) : ∃ z, (thV s)[i]? = some (.str z) := by
  rw [thV_get h]
  unfold kindAt
  split
  · cases s.kinds[((i : Nat) : Int).toNat]? with
    | none => exact ⟨_, rfl⟩
    | some k => exact ⟨_, rfl⟩
  · exact ⟨_, rfl⟩
section
variable {P : Program} {w : World} {K : PySem.W.Frag} {mg : Str → Option Value} {base : Heap}
theorem ok_word {f : Addr} {fd : FuncData} (F : FnP K "_law_word" "_law_word" s__law_word f fd) (T : Tx w K mg) (G__law_words : Def P w K mg base CX0 2 "_law_words" p__law_words (spWords K)) : FnOk P w K mg base CX0 3 f fd p__law_word (spWord K) := by
  refine F.ok sc__law_word (fun vs H Q E h => ?_) (fun cdv A outer s H vs Q E hr h => ?_)
  · obtain ⟨b, c, rfl, _⟩ := h
    rfl
  · obtain ⟨b, c, rfl, hb, k⟩ := h
    refine ⟨_, PSs.nox (pss_one (ps_ret (pe_ix ix_list (pe_fn G__law_words (hr.mono (by decide)) (by rfl) pass0 (pa_cons (pv 0) (pa_cons pe_int (pa_cons pe_int (pa_cons (pe_lst pa_nil) pa_nil))))) pe_int (fun _ _ => rfl)))), ?_⟩
    refine ⟨_, rfl, by show 0 ≤ sizeLine; decide, fun e0 n0 => ?_⟩
    have S0 : Same H (upd H e0 (.lst [])) := Same.new n0
    refine ⟨b, c, e0, 8, rfl, hb.same S0, by decide, by decide, SqL.of upd_same, fun z p0 H1 hz hb1 bs1 np0 hp0 => ?_⟩
    refine ⟨p0, _, _, .str z, rfl, rfl, SqL.of hp0, at0, ?_⟩
    exact k z H1 hz hb1 ((Same.bs S0).trans bs1)
theorem ok_token {f : Addr} {fd : FuncData} (F : FnP K "_law_token" "_law_token" s__law_token f fd) (T : Tx w K mg) (G__law_draw : Def P w K mg base CX0 1 "_law_draw" p__law_draw spDraw) (G__law_one : Def P w K mg base CX0 2 "_law_one" p__law_one (spOne K))
    (G__law_word : Def P w K mg base CX0 3 "_law_word" p__law_word (spWord K)) : FnOk P w K mg base CX0 4 f fd p__law_token (spToken K) := by
  refine F.ok sc__law_token (fun vs H Q E h => ?_) (fun cdv A outer s H vs Q E hr h => ?_)
  · obtain ⟨b, c, g, st, rfl, _⟩ := h
    rfl
  · obtain ⟨b, c, g, st, rfl, hb, hg, few, k⟩ := h
    refine ⟨_, PSs.nox (pss_cons (ps_set (i := 2) sc__law_token.nd rfl (.inl rfl) (pe_fn G__law_draw (hr.mono (by decide)) (by rfl) pass0 (pa_cons (pv 0) (pa_cons pe_int pa_nil))))
      (pss_cons (ps_setLc (i := 3) (own := [("_law_k", 6)]) (g := (gName 6)) (by rfl) sc__law_token.nd rfl rfl (sw_true rfl rfl rfl (by decide +kernel)) (pi_range1 (by rfl) T.b_range (pa_cons (pe_callB call_len_seq (by rfl) T.b_len PySem.boot_len (pa_cons (pv 1) pa_nil)) pa_nil)) (blkOk_by (N := n__law_token) (sc := defScope s__law_token) (by decide +kernel)) (fun _ _ _ _ _ => (pg_name (i := 6) sc__law_token.nd rfl (.inl rfl))) (fun _ _ _ _ _ => (pts_one (pt_cmpR op_ne (pe_ix (show IxR _ (rIxL K) from ix_list) (pv 1) (pv 6) (fun _ _ => rfl)) pe_str (nomark _)))) (fun _ _ _ _ _ => (pv 6)))
      (pss_cons (ps_set (i := 4) sc__law_token.nd rfl (.inl rfl) (pe_fn G__law_draw (hr.mono (by decide)) (by rfl) pass0 (pa_cons (pv 0) (pa_cons (pe_op op_add (pe_callB call_len_seq (by rfl) T.b_len PySem.boot_len (pa_cons (pv 1) pa_nil)) pe_int) pa_nil))))
      (C8.pss_cut (ps_if (PW.pt (pw_and (pt_cmpR op_gt (pe_callB call_len_seq (by rfl) T.b_len PySem.boot_len (pa_cons (pv 3) pa_nil)) pe_int (nomark _)) (pw_and1 (pt_cmpR op_ne (pe_fn G__law_draw (hr.mono (by decide)) (by rfl) pass0 (pa_cons (pv 0) (pa_cons pe_int pa_nil))) pe_int (nomark _))))) (pss_one (ps_set (i := 4) sc__law_token.nd rfl (.inl rfl) (pe_fn G__law_one (hr.mono (by decide)) (by rfl) pass0 (pa_cons (pv 0) (pa_cons (pv 3) pa_nil))))) pss_nil)
      (pss_cons (ps_if (pt_cmpR op_lt (pv 2) pe_int (nomark _)) (pss_one (ps_ret (pe_ix ix_list (pe_lst (pa_cons (pe_tup (pa_cons pe_str (pa_cons (pv 4) (pa_cons (pe_fn G__law_word (hr.mono (by decide)) (by rfl) pass0 (pa_cons (pv 0) pa_nil)) pa_nil)))) (pa_cons (pe_tup (pa_cons pe_str (pa_cons (pv 4) pa_nil))) (pa_cons (pe_tup (pa_cons pe_str (pa_cons (pv 4) pa_nil))) pa_nil)))) (pv 2) (fun _ _ => rfl)))) pss_nil)
      (pss_cons (ps_if (pt_cmpR op_lt (pv 2) pe_int (nomark _)) (pss_one (ps_ret (pe_ix ix_list (pe_lst (pa_cons (pe_tup (pa_cons pe_str (pa_cons (pe_fn G__law_word (hr.mono (by decide)) (by rfl) pass0 (pa_cons (pv 0) pa_nil)) pa_nil))) (pa_cons (pe_tup (pa_cons pe_str pa_nil)) (pa_cons (pe_tup (pa_cons pe_str (pa_cons (pe_fn G__law_word (hr.mono (by decide)) (by rfl) pass0 (pa_cons (pv 0) pa_nil)) pa_nil))) pa_nil)))) (pe_op op_sub (pv 2) pe_int) (fun _ _ => rfl)))) pss_nil)
      (pss_cons (ps_if (pt_cmpR op_lt (pv 2) pe_int (nomark _)) (pss_cons (ps_set (i := 5) sc__law_token.nd rfl (.inl rfl) (pe_lst (pa_cons (pe_tup (pa_cons pe_str (pa_cons (pe_fn G__law_word (hr.mono (by decide)) (by rfl) pass0 (pa_cons (pv 0) pa_nil)) (pa_cons (pe_fn G__law_word (hr.mono (by decide)) (by rfl) pass0 (pa_cons (pv 0) pa_nil)) pa_nil)))) (pa_cons (pe_tup (pa_cons pe_str (pa_cons (pe_fn G__law_word (hr.mono (by decide)) (by rfl) pass0 (pa_cons (pv 0) pa_nil)) pa_nil))) (pa_cons (pe_tup (pa_cons pe_str (pa_cons pe_str pa_nil))) pa_nil)))))
      (pss_one (ps_ret (pe_ix ix_list (pv 5) (pe_op op_sub (pv 2) pe_int) (fun _ _ => rfl))))) pss_nil)
      (pss_one (ps_ret (pe_ix ix_list (pe_lst (pa_cons (pe_tup (pa_cons pe_str (pa_cons (pe_fn G__law_word (hr.mono (by decide)) (by rfl) pass0 (pa_cons (pv 0) pa_nil)) pa_nil))) (pa_cons (pe_tup (pa_cons pe_str (pa_cons (pe_fn G__law_word (hr.mono (by decide)) (by rfl) pass0 (pa_cons (pv 0) pa_nil)) pa_nil))) pa_nil))) (pe_op op_sub (pv 2) pe_int) (fun _ _ => rfl))))))))))), ?_⟩
    refine ⟨_, rfl, b, c, 11, rfl, hb, by decide, fun way H1 hw hb1 ho1 => ?_⟩
    have w1 : WS H H1 b c := (WS.of hb).to hb1 ho1.bs
    have hg1 := w1.lst hb hg
    -- running
    refine ⟨_, rfl, g, _, rfl, .inl (SqL.of hg1), _, rfl, ?_⟩
    have ln := thV_len st
    refine ⟨by omega, by omega, fun D nD => ?_⟩
    refine lc_range (lo := 0) (n := (((thV st).length : Nat) : Int).toNat) (fun i H' => ∃ ns : List Nat, H' = upd H1 D (.lst (nats ns)) ∧ ns.length ≤ i) ⟨[], rfl, Nat.le_refl _⟩ (fun i H' hi q => ?_) (fun H' q => ?_)
    · obtain ⟨ns, rfl, nl⟩ := q
      have hi' : i < st.kinds.length := by omega
      obtain ⟨z, hz⟩ := th_str hi'
      have hgD : upd H1 D (.lst (nats ns)) g = some (.lst (thV st)) := by rw [upd_ne (ne_of_none hg1 nD)]; exact hg1
      have e0 : (0 : Int) + (i : Nat) = (i : Nat) := by omega
      refine ⟨rfl, ?_⟩
      rw [e0]
      refine ⟨_, rfl, _, rfl, g, _, _, .str z, rfl, rfl, SqL.of hgD, atI_nat hz, rfl, _, rfl, ?_⟩
      refine ite2 (fun cc => ?_) fun cc => ?_
      · refine ⟨_, rfl, _, upd_same, small1000 (by rw [List.length_map]; omega), ns ++ [i], ?_, by simp; omega⟩
        rw [upd_upd]
        simp [nats]
      · exact ⟨ns, rfl, by omega⟩
    · obtain ⟨ns, rfl, nl⟩ := q
      have w2 := w1.new (o := .lst (nats ns)) nD
      have hD : upd H1 D (.lst (nats ns)) D = some (.lst (nats ns)) := upd_same
      have hg2 := w2.lst hb hg
      generalize upd H1 D (.lst (nats ns)) = H2 at w2 hD hg2
      refine ⟨_, rfl, _, rfl, g, _, rfl, .inl (SqL.of hg2), _, _, rfl, rfl, b, c, (thV st).length + 1, rfl, w2.bg, by omega, fun nm H3 hn hb3 ho3 => ?_⟩
      have w3 := w2.to hb3 ho3.bs
      have hD3 : H3 D = some (.lst (nats ns)) := by
        refine ho3.bs _ _ hD fun z => ?_
        obtain ⟨_, _, _, _, _, h1, _⟩ := w2.bg
        rw [z, h1] at hD
        cases hD
      refine ⟨fun σ' H' => ∃ n : Nat, σ' = [some (.ref b), some (.ref g), some (.int (way : Nat)), some (.ref D), some (.int (n : Nat)), none, none] ∧ WS H H' b c, ?_, ?_⟩
      · refine ⟨_, rfl, D, _, rfl, .inl (SqL.of hD3), _, _, rfl, rfl, _, rfl, ?_⟩
        refine ite2 (fun c1 => ?_) fun c1 => ?_
        · refine ⟨_, rfl, b, c, 4, rfl, w3.bg, by decide, fun d4 H4 _ hb4 ho4 => ⟨rfl, _, rfl, ?_⟩⟩
          have w4 := w3.to hb4 ho4.bs
          have hD4 : H4 D = some (.lst (nats ns)) := by
            refine ho4.bs _ _ hD3 fun z => ?_
            obtain ⟨_, _, _, _, _, h1, _⟩ := w3.bg
            rw [z, h1] at hD3
            cases hD3
          refine ite2 (fun c2 => ?_) fun c2 => ?_
          · have c1' : (0 : Int) < ((nats ns).length : Nat) := of_decide_eq_true c1
            have ne : nats ns ≠ [] := fun z => by rw [z] at c1'; simp at c1'
            refine ⟨_, rfl, _, rfl, b, c, D, _, rfl, w4.bg, SqL.of hD4, ne, by rw [List.length_map]; omega, fun v H5 hv hb5 ho5 => ?_⟩
            obtain ⟨n, _, rfl⟩ := List.mem_map.mp hv
            exact ⟨n, rfl, w4.to hb5 ho5.bs⟩
          · exact ⟨nm, rfl, w4⟩
        · refine iteF ⟨nm, rfl, w3⟩
      · rintro σ' H4 ⟨n, rfl, w4⟩
        have e3 : ∀ m : Nat, decide ((way : Int) < (m : Nat)) = decide (way < m) := fun m => by
          by_cases h : way < m
          · rw [decide_eq_true h, decide_eq_true (by omega)]
          · rw [decide_eq_false h, decide_eq_false (by omega)]
        have hw11 : way < 11 := by omega
        have ok1 : ∀ {z : Str} {t : Tok}, isWord z = true → t.words = [z] → okW t := fun hz e y hy => by
          rw [e] at hy
          rw [List.mem_singleton.mp hy]
          exact hz
        have ok0 : ∀ {t : Tok}, t.words = [] → okW t := fun e y hy => by
          rw [e] at hy
          cases hy
        -- an answer, a ring, a drop
        refine ⟨_, rfl, _, _, rfl, rfl, _, rfl, ?_⟩
        refine ite2 (fun c3 => ?_) fun c3 => ?_
        · have lt3 : way < 3 := by have := of_decide_eq_true c3; omega
          refine ⟨_, rfl, _, rfl, b, c, rfl, w4.bg, fun z H5 hz hb5 bs5 => ⟨by show 3 ≤ sizeLine; decide, fun t1 n1 => ⟨_, rfl, by show 2 ≤ sizeLine; decide, fun t2 n2 => ⟨_, rfl, by show 2 ≤ sizeLine; decide, fun t3 n3 => ⟨by show 3 ≤ sizeLine; decide, fun L nL => ?_⟩⟩⟩⟩⟩
          have g1 := (AllG.nil (K := K) (H := H5)).tup (t := .answer n z) n1 (ok1 hz rfl)
          have g2 := g1.tup (t := .rang n) n2 (ok0 rfl)
          have g3 := g2.tup (t := .dropped n) n3 (ok0 rfl)
          have g4 := g3.same (Same.new (o := .lst [V.ref t1, V.ref t2, V.ref t3]) nL)
          have w5 := (((w4.to hb5 bs5).new n1).new n2).new (o := .tup [V.str "dropped", V.int (n : Nat)]) n3
          have w6 := w5.new (o := .lst [V.ref t1, V.ref t2, V.ref t3]) nL
          obtain ⟨v, hv, hgv⟩ := g4.pick (i := way) (by show way < 3; exact lt3)
          refine ⟨_, rfl, L, _, _, v, rfl, rfl, SqL.of upd_same, atI_nat hv, ?_⟩
          exact k v _ hgv w6.bg w6.bs
        -- an ask, a timer
        refine ⟨_, rfl, _, _, rfl, rfl, _, rfl, ?_⟩
        refine ite2 (fun c6 => ?_) fun c6 => ?_
        · have lt6 : way < 6 := by have := of_decide_eq_true c6; omega
          have ge3 : 3 ≤ way := by
            have : ¬ (way : Int) < 3 := fun z => c3 (decide_eq_true z)
            omega
          refine ⟨_, rfl, b, c, rfl, w4.bg, fun z H5 hz hb5 bs5 => ⟨by show 2 ≤ sizeLine; decide, fun t1 n1 => ⟨by show 1 ≤ sizeLine; decide, fun t2 n2 => ?_⟩⟩⟩
          have w5 := ((w4.to hb5 bs5).new (o := .tup [V.str "asked", V.str z]) n1).new (o := .tup [V.str "set"]) n2
          have g1 := (AllG.nil (K := K) (H := H5)).tup (t := .asked z) n1 (ok1 hz rfl)
          have g2 := g1.tup (t := .set) n2 (ok0 rfl)
          refine ⟨_, rfl, b, c, rfl, w5.bg, fun z2 H6 hz2 hb6 bs6 => ⟨by show 2 ≤ sizeLine; decide, fun t3 n3 => ⟨by show 3 ≤ sizeLine; decide, fun L nL => ?_⟩⟩⟩
          have g3 := (g2.bs bs6 w5.bg).tup (t := .asked z2) n3 (ok1 hz2 rfl)
          have g4 := g3.same (Same.new (o := .lst [V.ref t1, V.ref t2, V.ref t3]) nL)
          have w6 := ((w5.to hb6 bs6).new (o := .tup [V.str "asked", V.str z2]) n3).new (o := .lst [V.ref t1, V.ref t2, V.ref t3]) nL
          obtain ⟨v, hv, hgv⟩ := g4.pick (i := way - 3) (by show way - 3 < 3; omega)
          have ei : ((way : Nat) : Int) - 3 = ((way - 3 : Nat) : Int) := by omega
          refine ⟨_, rfl, _, _, rfl, rfl, L, _, _, v, rfl, rfl, SqL.of upd_same, by rw [ei]; exact atI_nat hv, ?_⟩
          exact k v _ hgv w6.bg w6.bs
        -- a signal, a note, a mark
        refine ⟨_, rfl, _, _, rfl, rfl, _, rfl, ?_⟩
        refine ite2 (fun c9 => ?_) fun c9 => ?_
        · have lt9 : way < 9 := by have := of_decide_eq_true c9; omega
          have ge6 : 6 ≤ way := by
            have : ¬ (way : Int) < 6 := fun z => c6 (decide_eq_true z)
            omega
          refine ⟨_, rfl, b, c, rfl, w4.bg, fun z H5 hz hb5 bs5 => ⟨_, rfl, b, c, rfl, hb5, fun z2 H6 hz2 hb6 bs6 => ⟨by show 3 ≤ sizeLine; decide, fun t1 n1 => ?_⟩⟩⟩
          have w6 := (w4.to hb5 bs5).to hb6 bs6
          have w7 := w6.new (o := .tup [V.str "signal", V.str z, V.str z2]) n1
          have g1 := (AllG.nil (K := K) (H := H6)).tup (t := .signal z z2) n1 (fun y hy => by
            rcases List.mem_cons.mp hy with q | q
            · rw [q]; exact hz
            · rw [List.mem_singleton.mp q]; exact hz2)
          refine ⟨_, rfl, b, c, rfl, w7.bg, fun z3 H7 hz3 hb7 bs7 => ⟨by show 2 ≤ sizeLine; decide, fun t2 n2 => ⟨by show 2 ≤ sizeLine; decide, fun t3 n3 => ⟨by show 3 ≤ sizeLine; decide, fun L nL => ?_⟩⟩⟩⟩
          have g2 := (g1.bs bs7 w7.bg).tup (t := .noted z3) n2 (ok1 hz3 rfl)
          have g3 := g2.tup (t := .marked "g") n3 (okW1 (by decide +kernel))
          have g4 := g3.same (Same.new (o := .lst [V.ref t1, V.ref t2, V.ref t3]) nL)
          have w8 := (((w7.to hb7 bs7).new (o := .tup [V.str "noted", V.str z3]) n2).new (o := .tup [V.str "marked", V.str "g"]) n3).new (o := .lst [V.ref t1, V.ref t2, V.ref t3]) nL
          obtain ⟨v, hv, hgv⟩ := g4.pick (i := way - 6) (by show way - 6 < 3; omega)
          have ei : ((way : Nat) : Int) - 6 = ((way - 6 : Nat) : Int) := by omega
          refine ⟨_, rfl, _, rfl, _, _, rfl, rfl, L, _, _, v, rfl, rfl, SqL.of upd_same, by rw [ei]; exact atI_nat hv, ?_⟩
          exact k v _ hgv w8.bg w8.bs
        have ge9 : 9 ≤ way := by
          have : ¬ (way : Int) < 9 := fun z => c9 (decide_eq_true z)
          omega
        refine ⟨_, rfl, b, c, rfl, w4.bg, fun z H5 hz hb5 bs5 => ⟨by show 2 ≤ sizeLine; decide, fun t1 n1 => ?_⟩⟩
        have w5 := (w4.to hb5 bs5).new (o := .tup [V.str "ended", V.str z]) n1
        have g1 := (AllG.nil (K := K) (H := H5)).tup (t := .ended z) n1 (ok1 hz rfl)
        refine ⟨_, rfl, b, c, rfl, w5.bg, fun z2 H6 hz2 hb6 bs6 => ⟨by show 2 ≤ sizeLine; decide, fun t2 n2 => ⟨by show 2 ≤ sizeLine; decide, fun L nL => ?_⟩⟩⟩
        have g2 := (g1.bs bs6 w5.bg).tup (t := .begin z2) n2 (ok1 hz2 rfl)
        have g4 := g2.same (Same.new (o := .lst [V.ref t1, V.ref t2]) nL)
        have w6 := ((w5.to hb6 bs6).new (o := .tup [V.str "begin", V.str z2]) n2).new (o := .lst [V.ref t1, V.ref t2]) nL
        obtain ⟨v, hv, hgv⟩ := g4.pick (i := way - 9) (by show way - 9 < 2; omega)
        have ei : ((way : Nat) : Int) - 9 = ((way - 9 : Nat) : Int) := by omega
        refine ⟨_, rfl, _, _, rfl, rfl, L, _, _, v, rfl, rfl, SqL.of upd_same, by rw [ei]; exact atI_nat hv, ?_⟩
        exact k v _ hgv w6.bg w6.bs
end
end K13

set_option Elab.async false
set_option maxRecDepth 100000
set_option maxHeartbeats 4000000
set_option linter.all false
namespace K13
open PySem PySem.Spec PyProof.Rows L2
theorem pw30 : (fun i j : Int => V.int (i ^ j.toNat)) 10 30 = V.int ((10 ^ 30 : Nat) : Int) := congrArg V.int (by decide +kernel)
theorem nw_A : isWord "A" = false := by decide +kernel
theorem nw_0 : isWord "" = false := by decide +kernel
theorem nw_9 : isWord "abcdefghi" = false := by decide +kernel
theorem yw_a : isWord "a" = true := by decide +kernel
theorem f_askedA : FormsAs (.asked "a") [.str "A"] false := ⟨by decide, .inr ⟨rfl, [false], rfl, fun i h1 h2 h3 => by
  match i with
  | 0 => exact nw_A ▸ Fit.word "A" (by decide +kernel)
  | j + 1 => simp only [List.length_cons, List.length_nil] at h2; omega, rfl⟩⟩
theorem f_noted0 : FormsAs (.noted "a") [.str ""] false := ⟨by decide, .inr ⟨rfl, [false], rfl, fun i h1 h2 h3 => by
  match i with
  | 0 => exact nw_0 ▸ Fit.word "" (by decide +kernel)
  | j + 1 => simp only [List.length_cons, List.length_nil] at h2; omega, rfl⟩⟩
theorem f_answerm : FormsAs (.answer 0 "a") [.int (-1), .str "a"] false := ⟨by decide, .inr ⟨rfl, [false, true], rfl, fun i h1 h2 h3 => by
  match i with
  | 0 => exact Fit.num (-1)
  | 1 => exact yw_a ▸ Fit.word "a" (by decide +kernel)
  | j + 2 => simp only [List.length_cons, List.length_nil] at h2; omega, rfl⟩⟩
theorem f_rangT : FormsAs (.rang 0) [.bl true] false := ⟨by decide, .inr ⟨rfl, [false], rfl, fun i h1 h2 h3 => by
  match i with
  | 0 => exact Fit.flag true
  | j + 1 => simp only [List.length_cons, List.length_nil] at h2; omega, rfl⟩⟩
theorem f_dropF : FormsAs (.dropped 0) [.bl false] false := ⟨by decide, .inr ⟨rfl, [false], rfl, fun i h1 h2 h3 => by
  match i with
  | 0 => exact Fit.flag false
  | j + 1 => simp only [List.length_cons, List.length_nil] at h2; omega, rfl⟩⟩
theorem f_answer0 : FormsAs (.answer 0 "a") [.str "0", .str "a"] false := ⟨by decide, .inr ⟨rfl, [false, true], rfl, fun i h1 h2 h3 => by
  match i with
  | 0 => exact Fit.txt "0"
  | 1 => exact yw_a ▸ Fit.word "a" (by decide +kernel)
  | j + 2 => simp only [List.length_cons, List.length_nil] at h2; omega, rfl⟩⟩
theorem f_signal5 : FormsAs (.signal "a" "b") [.str "a", .int 5] false := ⟨by decide, .inr ⟨rfl, [true, false], rfl, fun i h1 h2 h3 => by
  match i with
  | 0 => exact yw_a ▸ Fit.word "a" (by decide +kernel)
  | 1 => exact Fit.wint 5
  | j + 2 => simp only [List.length_cons, List.length_nil] at h2; omega, rfl⟩⟩
theorem f_markedN : FormsAs (.marked "a") [.non] false := ⟨by decide, .inr ⟨rfl, [false], rfl, fun i h1 h2 h3 => by
  match i with
  | 0 => exact Fit.wnon
  | j + 1 => simp only [List.length_cons, List.length_nil] at h2; omega, rfl⟩⟩
theorem f_asked9 : FormsAs (.asked "a") [.str "abcdefghi"] false := ⟨by decide, .inr ⟨rfl, [false], rfl, fun i h1 h2 h3 => by
  match i with
  | 0 => exact nw_9 ▸ Fit.word "abcdefghi" (by decide +kernel)
  | j + 1 => simp only [List.length_cons, List.length_nil] at h2; omega, rfl⟩⟩
/-- any of the values that may stand in a history -/
def OddV (K : PySem.W.Frag) (H : Hp) (v : V) : Prop := ∃ o, TV K H v o
theorem OddV.same {K : PySem.W.Frag} {H H' : Hp} {v : V} (e : Same H H') (h : OddV K H v) : OddV K H' v := by
  obtain ⟨o, h⟩ := h
  exact ⟨o, h.same e⟩
theorem TV.bs {K : PySem.W.Frag} {H H' : Hp} {b c : Addr} {v : V} {o : Option Tok} (e : Bs H H' b) (g : Bg H b c) (h : TV K H v o) : TV K H' v o := by
  have lk : ∀ {a : Addr} {xs : List V}, SqL K H a xs → SqL K H' a xs := fun h => by
    obtain ⟨_, _, _, _, _, h1, _⟩ := g
    rcases h with (h | ⟨o, h⟩) | h
    · exact .inl (.inl (e _ _ h (ne_of h h1 (by intro z; cases z))))
    · exact .inl (.inr ⟨o, e _ _ h (ne_of h h1 (by intro z; cases z))⟩)
    · exact .inr h
  cases o with
  | some t =>
    obtain ⟨⟨a, rfl, h1⟩, h2⟩ := h
    exact ⟨⟨a, rfl, bsT e g h1⟩, h2⟩
  | none =>
    cases (show Bad K H v from h) with
    | non => exact Bad.non
    | int i => exact Bad.int i
    | str z => exact Bad.str z
    | lst h2 => exact Bad.lst (lk h2)
    | emp h2 => exact Bad.emp (bsT e g h2)
    | head h2 n => exact Bad.head (bsT e g h2) (by
        cases n with
        | int i => exact .int i
        | tup h => exact .tup (bsT e g h))
    | unk h2 n => exact Bad.unk (bsT e g h2) n
    | form t0 h2 n => exact Bad.form t0 (bsT e g h2) n
theorem TVb {K : PySem.W.Frag} {H : Hp} {v : V} (h : Bad K H v) : OddV K H v := ⟨none, h⟩
theorem TVg {K : PySem.W.Frag} {H : Hp} {a : Addr} {t : Tok} (h : SqT K H a t.vals) (w : (t.words.all isWord) = true) : OddV K H (.ref a) := ⟨some t, ⟨a, rfl, h⟩, okW1 w⟩
theorem GoodV.odd {K : PySem.W.Frag} {H : Hp} {v : V} (h : GoodV K H v) : OddV K H v := by
  obtain ⟨t, h1, h2⟩ := h
  exact ⟨some t, h1, h2⟩
def AllO (K : PySem.W.Frag) (H : Hp) (ys : List V) : Prop := ∀ y ∈ ys, OddV K H y
theorem AllO.nil {K : PySem.W.Frag} {H : Hp} : AllO K H [] := fun y hy => by cases hy
theorem AllO.same {K : PySem.W.Frag} {H H' : Hp} {ys : List V} (h : AllO K H ys) (e : Same H H') : AllO K H' ys := fun y hy => (h y hy).same e
theorem AllO.add {K : PySem.W.Frag} {H : Hp} {ys : List V} {v : V} (h : AllO K H ys) (g : OddV K H v) : AllO K H (ys ++ [v]) := fun y hy => by
  rcases List.mem_append.mp hy with q | q
  · exact h y q
  · rw [List.mem_singleton.mp q]; exact g
theorem AllO.app {K : PySem.W.Frag} {H : Hp} {ys zs : List V} (h : AllO K H ys) (g : AllO K H zs) : AllO K H (ys ++ zs) := fun y hy => (List.mem_append.mp hy).elim (h y) (g y)
def spOdd (K : PySem.W.Frag) : Sp := fun vs H Q _ => ∃ (b c g : Addr), vs = [.ref b, .ref g] ∧ Bg H b c ∧ ∀ (v : V) (H' : Hp), OddV K H' v → Bg H' b c → Bs H H' b → Q v H'
section
variable {P : Program} {w : World} {K : PySem.W.Frag} {mg : Str → Option Value} {base : Heap}
theorem ok_odd {f : Addr} {fd : FuncData} (F : FnP K "_law_odd" "_law_odd" s__law_odd f fd) (T : Tx w K mg) (G__law_draw : Def P w K mg base CX0 1 "_law_draw" p__law_draw spDraw) : FnOk P w K mg base CX0 2 f fd p__law_odd (spOdd K) := by
  refine F.ok sc__law_odd (fun vs H Q E h => ?_) (fun cdv A outer s H vs Q E hr h => ?_)
  · obtain ⟨b, c, g, rfl, _⟩ := h
    rfl
  · obtain ⟨b, c, g, rfl, hb, k⟩ := h
    refine ⟨_, PSs.nox (pss_cons (ps_set (i := 2) sc__law_odd.nd rfl (.inl rfl) (pe_lst (pa_cons (pe_tup (pa_cons pe_str (pa_cons pe_str pa_nil))) (pa_cons (pe_tup (pa_cons pe_str pa_nil)) (pa_cons (pe_tup (pa_cons pe_str pa_nil)) (pa_cons (pe_tup (pa_cons pe_str (pa_cons pe_int pa_nil))) (pa_cons (pe_tup (pa_cons pe_str (pa_cons pe_str pa_nil))) (pa_cons (pe_tup (pa_cons pe_str (pa_cons pe_str pa_nil))) pa_nil))))))))
      (pss_cons (ps_set (i := 2) sc__law_odd.nd rfl (.inl rfl) (pe_op op_cat (pv 2) (pe_lst (pa_cons (pe_tup (pa_cons pe_str (pa_cons (pe_un un_neg pe_int) (pa_cons pe_str pa_nil)))) (pa_cons (pe_tup (pa_cons pe_str (pa_cons pe_bl pa_nil))) (pa_cons (pe_tup (pa_cons pe_str (pa_cons pe_bl pa_nil))) (pa_cons (pe_tup (pa_cons pe_str (pa_cons pe_str (pa_cons pe_str pa_nil)))) pa_nil)))))))
      (pss_cons (ps_set (i := 2) sc__law_odd.nd rfl (.inl rfl) (pe_op op_cat (pv 2) (pe_lst (pa_cons (pe_tup (pa_cons pe_str (pa_cons pe_str pa_nil))) (pa_cons (pe_tup (pa_cons pe_str (pa_cons pe_str (pa_cons pe_int pa_nil)))) (pa_cons (pe_lst (pa_cons pe_str pa_nil)) (pa_cons pe_non (pa_cons pe_str (pa_cons (pe_tup pa_nil) (pa_cons pe_int (pa_cons (pe_tup (pa_cons pe_str pa_nil)) pa_nil)))))))))))
      (pss_cons (ps_set (i := 2) sc__law_odd.nd rfl (.inl rfl) (pe_op op_cat (pv 2) (pe_lst (pa_cons (pe_tup (pa_cons pe_str (pa_cons pe_int pa_nil))) (pa_cons (pe_tup (pa_cons pe_str (pa_cons pe_int (pa_cons pe_str pa_nil)))) (pa_cons (pe_tup (pa_cons pe_str (pa_cons pe_non pa_nil))) (pa_cons (pe_tup (pa_cons (pe_tup (pa_cons pe_str pa_nil)) pa_nil)) (pa_cons (pe_tup (pa_cons pe_int pa_nil)) pa_nil))))))))
      (pss_cons (ps_set (i := 2) sc__law_odd.nd rfl (.inl rfl) (pe_op op_cat (pv 2) (pe_lst (pa_cons (pe_tup (pa_cons pe_str (pa_cons pe_str (pa_cons pe_str pa_nil)))) (pa_cons (pe_tup (pa_cons pe_str pa_nil)) (pa_cons (pe_tup (pa_cons pe_str (pa_cons (pe_op op_pow pe_int pe_int) pa_nil))) (pa_cons (pe_tup (pa_cons pe_str (pa_cons pe_str pa_nil))) pa_nil)))))))
      (pss_one (ps_ret (pe_ix ix_list (pv 2) (pe_fn G__law_draw (hr.mono (by decide)) (by rfl) pass0 (pa_cons (pv 0) (pa_cons (pe_callB call_len_seq (by rfl) T.b_len PySem.boot_len (pa_cons (pv 2) pa_nil)) pa_nil))) (fun _ _ => rfl))))))))), ?_⟩
    have w0 : WS H H b c := WS.of hb
    have m0 : AllO K H [] := AllO.nil
    have a0 : AllO K H [] := AllO.nil
    refine ⟨by show 2 ≤ sizeLine; decide, fun e0 ne0 => ?_⟩
    have se0 : Same H (upd H e0 (.tup [V.str "anew", V.str "x"])) := Same.new ne0
    have he0 : upd H e0 (.tup [V.str "anew", V.str "x"]) e0 = some (.tup [V.str "anew", V.str "x"]) := upd_same
    have we0 := w0.new (o := .tup [V.str "anew", V.str "x"]) ne0
    generalize upd H e0 (.tup [V.str "anew", V.str "x"]) = Ge0 at se0 he0 we0 ⊢
    have wGe0 := we0
    have a0_e0 := a0.same se0
    have i1 := a0_e0.add (v := V.ref e0) (TVg (t := .anew "x") (SqT.of he0) (by decide +kernel))
    refine ⟨by show 1 ≤ sizeLine; decide, fun e2 ne2 => ?_⟩
    have se2 : Same Ge0 (upd Ge0 e2 (.tup [V.str "ended"])) := Same.new ne2
    have he2 : upd Ge0 e2 (.tup [V.str "ended"]) e2 = some (.tup [V.str "ended"]) := upd_same
    have we2 := wGe0.new (o := .tup [V.str "ended"]) ne2
    generalize upd Ge0 e2 (.tup [V.str "ended"]) = Ge2 at se2 he2 we2 ⊢
    have wGe2 := we2
    have i1_e2 := i1.same se2
    have i3 := i1_e2.add (v := V.ref e2) (TVb (Bad.form (.ended "a") (SqT.of he2) ⟨by decide, .inl ⟨by decide, rfl⟩⟩))
    refine ⟨by show 1 ≤ sizeLine; decide, fun e4 ne4 => ?_⟩
    have se4 : Same Ge2 (upd Ge2 e4 (.tup [V.str "asked"])) := Same.new ne4
    have he4 : upd Ge2 e4 (.tup [V.str "asked"]) e4 = some (.tup [V.str "asked"]) := upd_same
    have we4 := wGe2.new (o := .tup [V.str "asked"]) ne4
    generalize upd Ge2 e4 (.tup [V.str "asked"]) = Ge4 at se4 he4 we4 ⊢
    have wGe4 := we4
    have i3_e4 := i3.same se4
    have i5 := i3_e4.add (v := V.ref e4) (TVb (Bad.form (.asked "a") (SqT.of he4) ⟨by decide, .inl ⟨by decide, rfl⟩⟩))
    refine ⟨by show 2 ≤ sizeLine; decide, fun e6 ne6 => ?_⟩
    have se6 : Same Ge4 (upd Ge4 e6 (.tup [V.str "set", V.int 0])) := Same.new ne6
    have he6 : upd Ge4 e6 (.tup [V.str "set", V.int 0]) e6 = some (.tup [V.str "set", V.int 0]) := upd_same
    have we6 := wGe4.new (o := .tup [V.str "set", V.int 0]) ne6
    generalize upd Ge4 e6 (.tup [V.str "set", V.int 0]) = Ge6 at se6 he6 we6 ⊢
    have wGe6 := we6
    have i5_e6 := i5.same se6
    have i7 := i5_e6.add (v := V.ref e6) (TVb (Bad.form .set (SqT.of he6) ⟨by decide, .inl ⟨by decide, rfl⟩⟩))
    refine ⟨by show 2 ≤ sizeLine; decide, fun e8 ne8 => ?_⟩
    have se8 : Same Ge6 (upd Ge6 e8 (.tup [V.str "asked", V.str "A"])) := Same.new ne8
    have he8 : upd Ge6 e8 (.tup [V.str "asked", V.str "A"]) e8 = some (.tup [V.str "asked", V.str "A"]) := upd_same
    have we8 := wGe6.new (o := .tup [V.str "asked", V.str "A"]) ne8
    generalize upd Ge6 e8 (.tup [V.str "asked", V.str "A"]) = Ge8 at se8 he8 we8 ⊢
    have wGe8 := we8
    have i7_e8 := i7.same se8
    have i9 := i7_e8.add (v := V.ref e8) (TVb (Bad.form (.asked "a") (SqT.of he8) f_askedA))
    refine ⟨by show 2 ≤ sizeLine; decide, fun e10 ne10 => ?_⟩
    have se10 : Same Ge8 (upd Ge8 e10 (.tup [V.str "noted", V.str ""])) := Same.new ne10
    have he10 : upd Ge8 e10 (.tup [V.str "noted", V.str ""]) e10 = some (.tup [V.str "noted", V.str ""]) := upd_same
    have we10 := wGe8.new (o := .tup [V.str "noted", V.str ""]) ne10
    generalize upd Ge8 e10 (.tup [V.str "noted", V.str ""]) = Ge10 at se10 he10 we10 ⊢
    have wGe10 := we10
    have i9_e10 := i9.same se10
    have i11 := i9_e10.add (v := V.ref e10) (TVb (Bad.form (.noted "a") (SqT.of he10) f_noted0))
    refine ⟨by show 6 ≤ sizeLine; decide, fun M0 nM0 => ?_⟩
    have sM0 : Same Ge10 (upd Ge10 M0 (.lst [V.ref e0, V.ref e2, V.ref e4, V.ref e6, V.ref e8, V.ref e10])) := Same.new nM0
    have hM0 : upd Ge10 M0 (.lst [V.ref e0, V.ref e2, V.ref e4, V.ref e6, V.ref e8, V.ref e10]) M0 = some (.lst [V.ref e0, V.ref e2, V.ref e4, V.ref e6, V.ref e8, V.ref e10]) := upd_same
    have wM0 := wGe10.new (o := .lst [V.ref e0, V.ref e2, V.ref e4, V.ref e6, V.ref e8, V.ref e10]) nM0
    generalize upd Ge10 M0 (.lst [V.ref e0, V.ref e2, V.ref e4, V.ref e6, V.ref e8, V.ref e10]) = GM0 at sM0 hM0 wM0 ⊢
    have wGM0 := wM0
    have i11_M0 : AllO K GM0 [V.ref e0, V.ref e2, V.ref e4, V.ref e6, V.ref e8, V.ref e10] := i11.same sM0
    refine ⟨_, rfl, ?_⟩
    have a1 : AllO K GM0 [] := AllO.nil
    refine ⟨1, rfl, ?_⟩
    refine ⟨by show 3 ≤ sizeLine; decide, fun e12 ne12 => ?_⟩
    have se12 : Same GM0 (upd GM0 e12 (.tup [V.str "answer", V.int (-1), V.str "a"])) := Same.new ne12
    have he12 : upd GM0 e12 (.tup [V.str "answer", V.int (-1), V.str "a"]) e12 = some (.tup [V.str "answer", V.int (-1), V.str "a"]) := upd_same
    have we12 := wGM0.new (o := .tup [V.str "answer", V.int (-1), V.str "a"]) ne12
    generalize upd GM0 e12 (.tup [V.str "answer", V.int (-1), V.str "a"]) = Ge12 at se12 he12 we12 ⊢
    have wGe12 := we12
    have a1_e12 := a1.same se12
    have hM0_e12 := se12 _ _ hM0
    have pm_e12 := i11_M0.same se12
    have i13 := a1_e12.add (v := V.ref e12) (TVb (Bad.form (.answer 0 "a") (SqT.of he12) f_answerm))
    refine ⟨by show 2 ≤ sizeLine; decide, fun e14 ne14 => ?_⟩
    have se14 : Same Ge12 (upd Ge12 e14 (.tup [V.str "rang", V.bl true])) := Same.new ne14
    have he14 : upd Ge12 e14 (.tup [V.str "rang", V.bl true]) e14 = some (.tup [V.str "rang", V.bl true]) := upd_same
    have we14 := wGe12.new (o := .tup [V.str "rang", V.bl true]) ne14
    generalize upd Ge12 e14 (.tup [V.str "rang", V.bl true]) = Ge14 at se14 he14 we14 ⊢
    have wGe14 := we14
    have i13_e14 := i13.same se14
    have hM0_e14 := se14 _ _ hM0_e12
    have pm_e14 := pm_e12.same se14
    have i15 := i13_e14.add (v := V.ref e14) (TVb (Bad.form (.rang 0) (SqT.of he14) f_rangT))
    refine ⟨by show 2 ≤ sizeLine; decide, fun e16 ne16 => ?_⟩
    have se16 : Same Ge14 (upd Ge14 e16 (.tup [V.str "dropped", V.bl false])) := Same.new ne16
    have he16 : upd Ge14 e16 (.tup [V.str "dropped", V.bl false]) e16 = some (.tup [V.str "dropped", V.bl false]) := upd_same
    have we16 := wGe14.new (o := .tup [V.str "dropped", V.bl false]) ne16
    generalize upd Ge14 e16 (.tup [V.str "dropped", V.bl false]) = Ge16 at se16 he16 we16 ⊢
    have wGe16 := we16
    have i15_e16 := i15.same se16
    have hM0_e16 := se16 _ _ hM0_e14
    have pm_e16 := pm_e14.same se16
    have i17 := i15_e16.add (v := V.ref e16) (TVb (Bad.form (.dropped 0) (SqT.of he16) f_dropF))
    refine ⟨by show 3 ≤ sizeLine; decide, fun e18 ne18 => ?_⟩
    have se18 : Same Ge16 (upd Ge16 e18 (.tup [V.str "answer", V.str "0", V.str "a"])) := Same.new ne18
    have he18 : upd Ge16 e18 (.tup [V.str "answer", V.str "0", V.str "a"]) e18 = some (.tup [V.str "answer", V.str "0", V.str "a"]) := upd_same
    have we18 := wGe16.new (o := .tup [V.str "answer", V.str "0", V.str "a"]) ne18
    generalize upd Ge16 e18 (.tup [V.str "answer", V.str "0", V.str "a"]) = Ge18 at se18 he18 we18 ⊢
    have wGe18 := we18
    have i17_e18 := i17.same se18
    have hM0_e18 := se18 _ _ hM0_e16
    have pm_e18 := pm_e16.same se18
    have i19 := i17_e18.add (v := V.ref e18) (TVb (Bad.form (.answer 0 "a") (SqT.of he18) f_answer0))
    refine ⟨by show 4 ≤ sizeLine; decide, fun M1 nM1 => ?_⟩
    have sM1 : Same Ge18 (upd Ge18 M1 (.lst [V.ref e12, V.ref e14, V.ref e16, V.ref e18])) := Same.new nM1
    have hM1 : upd Ge18 M1 (.lst [V.ref e12, V.ref e14, V.ref e16, V.ref e18]) M1 = some (.lst [V.ref e12, V.ref e14, V.ref e16, V.ref e18]) := upd_same
    have wM1 := wGe18.new (o := .lst [V.ref e12, V.ref e14, V.ref e16, V.ref e18]) nM1
    generalize upd Ge18 M1 (.lst [V.ref e12, V.ref e14, V.ref e16, V.ref e18]) = GM1 at sM1 hM1 wM1 ⊢
    have wGM1 := wM1
    have i19_M1 : AllO K GM1 [V.ref e12, V.ref e14, V.ref e16, V.ref e18] := i19.same sM1
    have hM0_M1 := sM1 _ _ hM0_e18
    have pm_M1 := pm_e18.same sM1
    refine ⟨M0, M1, _, _, rfl, rfl, hM0_M1, hM1, by rw [sizeLine_eq]; simp, fun C1 nC1 => ?_⟩
    have c1 := pm_M1.app i19_M1
    have sC1 : Same GM1 (upd GM1 C1 (.lst ([V.ref e0, V.ref e2, V.ref e4, V.ref e6, V.ref e8, V.ref e10] ++ [V.ref e12, V.ref e14, V.ref e16, V.ref e18]))) := Same.new nC1
    have hC1 : upd GM1 C1 (.lst ([V.ref e0, V.ref e2, V.ref e4, V.ref e6, V.ref e8, V.ref e10] ++ [V.ref e12, V.ref e14, V.ref e16, V.ref e18])) C1 = some (.lst ([V.ref e0, V.ref e2, V.ref e4, V.ref e6, V.ref e8, V.ref e10] ++ [V.ref e12, V.ref e14, V.ref e16, V.ref e18])) := upd_same
    have wC1 := wGM1.new (o := .lst ([V.ref e0, V.ref e2, V.ref e4, V.ref e6, V.ref e8, V.ref e10] ++ [V.ref e12, V.ref e14, V.ref e16, V.ref e18])) nC1
    generalize upd GM1 C1 (.lst ([V.ref e0, V.ref e2, V.ref e4, V.ref e6, V.ref e8, V.ref e10] ++ [V.ref e12, V.ref e14, V.ref e16, V.ref e18])) = GC1 at sC1 hC1 wC1 ⊢
    have wGC1 := wC1
    have c1_C1 : AllO K GC1 ([V.ref e0, V.ref e2, V.ref e4, V.ref e6, V.ref e8, V.ref e10] ++ [V.ref e12, V.ref e14, V.ref e16, V.ref e18]) := c1.same sC1
    refine ⟨_, rfl, ?_⟩
    have a2 : AllO K GC1 [] := AllO.nil
    refine ⟨by show 2 ≤ sizeLine; decide, fun e20 ne20 => ?_⟩
    have se20 : Same GC1 (upd GC1 e20 (.tup [V.str "signal", V.str "a"])) := Same.new ne20
    have he20 : upd GC1 e20 (.tup [V.str "signal", V.str "a"]) e20 = some (.tup [V.str "signal", V.str "a"]) := upd_same
    have we20 := wGC1.new (o := .tup [V.str "signal", V.str "a"]) ne20
    generalize upd GC1 e20 (.tup [V.str "signal", V.str "a"]) = Ge20 at se20 he20 we20 ⊢
    have wGe20 := we20
    have a2_e20 := a2.same se20
    have hC1_e20 := se20 _ _ hC1
    have pm_e20 := c1_C1.same se20
    have i21 := a2_e20.add (v := V.ref e20) (TVb (Bad.form (.signal "a" "b") (SqT.of he20) ⟨by decide, .inl ⟨by decide, rfl⟩⟩))
    refine ⟨by show 3 ≤ sizeLine; decide, fun e22 ne22 => ?_⟩
    have se22 : Same Ge20 (upd Ge20 e22 (.tup [V.str "signal", V.str "a", V.int 5])) := Same.new ne22
    have he22 : upd Ge20 e22 (.tup [V.str "signal", V.str "a", V.int 5]) e22 = some (.tup [V.str "signal", V.str "a", V.int 5]) := upd_same
    have we22 := wGe20.new (o := .tup [V.str "signal", V.str "a", V.int 5]) ne22
    generalize upd Ge20 e22 (.tup [V.str "signal", V.str "a", V.int 5]) = Ge22 at se22 he22 we22 ⊢
    have wGe22 := we22
    have i21_e22 := i21.same se22
    have hC1_e22 := se22 _ _ hC1_e20
    have pm_e22 := pm_e20.same se22
    have i23 := i21_e22.add (v := V.ref e22) (TVb (Bad.form (.signal "a" "b") (SqT.of he22) f_signal5))
    refine ⟨by show 1 ≤ sizeLine; decide, fun e24 ne24 => ?_⟩
    have se24 : Same Ge22 (upd Ge22 e24 (.lst [V.str "set"])) := Same.new ne24
    have he24 : upd Ge22 e24 (.lst [V.str "set"]) e24 = some (.lst [V.str "set"]) := upd_same
    have we24 := wGe22.new (o := .lst [V.str "set"]) ne24
    generalize upd Ge22 e24 (.lst [V.str "set"]) = Ge24 at se24 he24 we24 ⊢
    have wGe24 := we24
    have i23_e24 := i23.same se24
    have hC1_e24 := se24 _ _ hC1_e22
    have pm_e24 := pm_e22.same se24
    have i25 := i23_e24.add (v := V.ref e24) (TVb (Bad.lst (SqL.of he24)))
    have i26 := i25.add (v := V.non) (TVb Bad.non)
    have i27 := i26.add (v := V.str "set") (TVb (Bad.str _))
    refine ⟨by show 0 ≤ sizeLine; decide, fun e28 ne28 => ?_⟩
    have se28 : Same Ge24 (upd Ge24 e28 (.tup [])) := Same.new ne28
    have he28 : upd Ge24 e28 (.tup []) e28 = some (.tup []) := upd_same
    have we28 := wGe24.new (o := .tup []) ne28
    generalize upd Ge24 e28 (.tup []) = Ge28 at se28 he28 we28 ⊢
    have wGe28 := we28
    have i27_e28 := i27.same se28
    have hC1_e28 := se28 _ _ hC1_e24
    have pm_e28 := pm_e24.same se28
    have i29 := i27_e28.add (v := V.ref e28) (TVb (Bad.emp (SqT.of he28)))
    have i30 := i29.add (v := V.int 0) (TVb (Bad.int _))
    refine ⟨by show 1 ≤ sizeLine; decide, fun e31 ne31 => ?_⟩
    have se31 : Same Ge28 (upd Ge28 e31 (.tup [V.str "gone"])) := Same.new ne31
    have he31 : upd Ge28 e31 (.tup [V.str "gone"]) e31 = some (.tup [V.str "gone"]) := upd_same
    have we31 := wGe28.new (o := .tup [V.str "gone"]) ne31
    generalize upd Ge28 e31 (.tup [V.str "gone"]) = Ge31 at se31 he31 we31 ⊢
    have wGe31 := we31
    have i30_e31 := i30.same se31
    have hC1_e31 := se31 _ _ hC1_e28
    have pm_e31 := pm_e28.same se31
    have i32 := i30_e31.add (v := V.ref e31) (TVb (Bad.unk (SqT.of he31) (.inl rfl)))
    refine ⟨by show 8 ≤ sizeLine; decide, fun M2 nM2 => ?_⟩
    have sM2 : Same Ge31 (upd Ge31 M2 (.lst [V.ref e20, V.ref e22, V.ref e24, V.non, V.str "set", V.ref e28, V.int 0, V.ref e31])) := Same.new nM2
    have hM2 : upd Ge31 M2 (.lst [V.ref e20, V.ref e22, V.ref e24, V.non, V.str "set", V.ref e28, V.int 0, V.ref e31]) M2 = some (.lst [V.ref e20, V.ref e22, V.ref e24, V.non, V.str "set", V.ref e28, V.int 0, V.ref e31]) := upd_same
    have wM2 := wGe31.new (o := .lst [V.ref e20, V.ref e22, V.ref e24, V.non, V.str "set", V.ref e28, V.int 0, V.ref e31]) nM2
    generalize upd Ge31 M2 (.lst [V.ref e20, V.ref e22, V.ref e24, V.non, V.str "set", V.ref e28, V.int 0, V.ref e31]) = GM2 at sM2 hM2 wM2 ⊢
    have wGM2 := wM2
    have i32_M2 : AllO K GM2 [V.ref e20, V.ref e22, V.ref e24, V.non, V.str "set", V.ref e28, V.int 0, V.ref e31] := i32.same sM2
    have hC1_M2 := sM2 _ _ hC1_e31
    have pm_M2 := pm_e31.same sM2
    refine ⟨C1, M2, _, _, rfl, rfl, hC1_M2, hM2, by rw [sizeLine_eq]; simp, fun C2 nC2 => ?_⟩
    have c2 := pm_M2.app i32_M2
    have sC2 : Same GM2 (upd GM2 C2 (.lst (([V.ref e0, V.ref e2, V.ref e4, V.ref e6, V.ref e8, V.ref e10] ++ [V.ref e12, V.ref e14, V.ref e16, V.ref e18]) ++ [V.ref e20, V.ref e22, V.ref e24, V.non, V.str "set", V.ref e28, V.int 0, V.ref e31]))) := Same.new nC2
    have hC2 : upd GM2 C2 (.lst (([V.ref e0, V.ref e2, V.ref e4, V.ref e6, V.ref e8, V.ref e10] ++ [V.ref e12, V.ref e14, V.ref e16, V.ref e18]) ++ [V.ref e20, V.ref e22, V.ref e24, V.non, V.str "set", V.ref e28, V.int 0, V.ref e31])) C2 = some (.lst (([V.ref e0, V.ref e2, V.ref e4, V.ref e6, V.ref e8, V.ref e10] ++ [V.ref e12, V.ref e14, V.ref e16, V.ref e18]) ++ [V.ref e20, V.ref e22, V.ref e24, V.non, V.str "set", V.ref e28, V.int 0, V.ref e31])) := upd_same
    have wC2 := wGM2.new (o := .lst (([V.ref e0, V.ref e2, V.ref e4, V.ref e6, V.ref e8, V.ref e10] ++ [V.ref e12, V.ref e14, V.ref e16, V.ref e18]) ++ [V.ref e20, V.ref e22, V.ref e24, V.non, V.str "set", V.ref e28, V.int 0, V.ref e31])) nC2
    generalize upd GM2 C2 (.lst (([V.ref e0, V.ref e2, V.ref e4, V.ref e6, V.ref e8, V.ref e10] ++ [V.ref e12, V.ref e14, V.ref e16, V.ref e18]) ++ [V.ref e20, V.ref e22, V.ref e24, V.non, V.str "set", V.ref e28, V.int 0, V.ref e31])) = GC2 at sC2 hC2 wC2 ⊢
    have wGC2 := wC2
    have c2_C2 : AllO K GC2 (([V.ref e0, V.ref e2, V.ref e4, V.ref e6, V.ref e8, V.ref e10] ++ [V.ref e12, V.ref e14, V.ref e16, V.ref e18]) ++ [V.ref e20, V.ref e22, V.ref e24, V.non, V.str "set", V.ref e28, V.int 0, V.ref e31]) := c2.same sC2
    refine ⟨_, rfl, ?_⟩
    have a3 : AllO K GC2 [] := AllO.nil
    refine ⟨by show 2 ≤ sizeLine; decide, fun e33 ne33 => ?_⟩
    have se33 : Same GC2 (upd GC2 e33 (.tup [V.str "answer", V.int 0])) := Same.new ne33
    have he33 : upd GC2 e33 (.tup [V.str "answer", V.int 0]) e33 = some (.tup [V.str "answer", V.int 0]) := upd_same
    have we33 := wGC2.new (o := .tup [V.str "answer", V.int 0]) ne33
    generalize upd GC2 e33 (.tup [V.str "answer", V.int 0]) = Ge33 at se33 he33 we33 ⊢
    have wGe33 := we33
    have a3_e33 := a3.same se33
    have hC2_e33 := se33 _ _ hC2
    have pm_e33 := c2_C2.same se33
    have i34 := a3_e33.add (v := V.ref e33) (TVb (Bad.form (.answer 0 "a") (SqT.of he33) ⟨by decide, .inl ⟨by decide, rfl⟩⟩))
    refine ⟨by show 3 ≤ sizeLine; decide, fun e35 ne35 => ?_⟩
    have se35 : Same Ge33 (upd Ge33 e35 (.tup [V.str "rang", V.int 0, V.str "rang"])) := Same.new ne35
    have he35 : upd Ge33 e35 (.tup [V.str "rang", V.int 0, V.str "rang"]) e35 = some (.tup [V.str "rang", V.int 0, V.str "rang"]) := upd_same
    have we35 := wGe33.new (o := .tup [V.str "rang", V.int 0, V.str "rang"]) ne35
    generalize upd Ge33 e35 (.tup [V.str "rang", V.int 0, V.str "rang"]) = Ge35 at se35 he35 we35 ⊢
    have wGe35 := we35
    have i34_e35 := i34.same se35
    have hC2_e35 := se35 _ _ hC2_e33
    have pm_e35 := pm_e33.same se35
    have i36 := i34_e35.add (v := V.ref e35) (TVb (Bad.form (.rang 0) (SqT.of he35) ⟨by decide, .inl ⟨by decide, rfl⟩⟩))
    refine ⟨by show 2 ≤ sizeLine; decide, fun e37 ne37 => ?_⟩
    have se37 : Same Ge35 (upd Ge35 e37 (.tup [V.str "marked", V.non])) := Same.new ne37
    have he37 : upd Ge35 e37 (.tup [V.str "marked", V.non]) e37 = some (.tup [V.str "marked", V.non]) := upd_same
    have we37 := wGe35.new (o := .tup [V.str "marked", V.non]) ne37
    generalize upd Ge35 e37 (.tup [V.str "marked", V.non]) = Ge37 at se37 he37 we37 ⊢
    have wGe37 := we37
    have i36_e37 := i36.same se37
    have hC2_e37 := se37 _ _ hC2_e35
    have pm_e37 := pm_e35.same se37
    have i38 := i36_e37.add (v := V.ref e37) (TVb (Bad.form (.marked "a") (SqT.of he37) f_markedN))
    refine ⟨by show 1 ≤ sizeLine; decide, fun e39 ne39 => ?_⟩
    have se39 : Same Ge37 (upd Ge37 e39 (.tup [V.str "set"])) := Same.new ne39
    have he39 : upd Ge37 e39 (.tup [V.str "set"]) e39 = some (.tup [V.str "set"]) := upd_same
    have we39 := wGe37.new (o := .tup [V.str "set"]) ne39
    generalize upd Ge37 e39 (.tup [V.str "set"]) = Ge39 at se39 he39 we39 ⊢
    have wGe39 := we39
    have i38_e39 := i38.same se39
    have hC2_e39 := se39 _ _ hC2_e37
    have pm_e39 := pm_e37.same se39
    have qe39 := he39
    refine ⟨by show 1 ≤ sizeLine; decide, fun e40 ne40 => ?_⟩
    have se40 : Same Ge39 (upd Ge39 e40 (.tup [V.ref e39])) := Same.new ne40
    have he40 : upd Ge39 e40 (.tup [V.ref e39]) e40 = some (.tup [V.ref e39]) := upd_same
    have we40 := wGe39.new (o := .tup [V.ref e39]) ne40
    generalize upd Ge39 e40 (.tup [V.ref e39]) = Ge40 at se40 he40 we40 ⊢
    have wGe40 := we40
    have i38_e39_e40 := i38_e39.same se40
    have hC2_e40 := se40 _ _ hC2_e39
    have pm_e40 := pm_e39.same se40
    have qe402 := se40 _ _ qe39
    have i41 := i38_e39_e40.add (v := V.ref e40) (TVb (Bad.head (SqT.of he40) (.tup (SqT.of qe402))))
    refine ⟨by show 1 ≤ sizeLine; decide, fun e42 ne42 => ?_⟩
    have se42 : Same Ge40 (upd Ge40 e42 (.tup [V.int 0])) := Same.new ne42
    have he42 : upd Ge40 e42 (.tup [V.int 0]) e42 = some (.tup [V.int 0]) := upd_same
    have we42 := wGe40.new (o := .tup [V.int 0]) ne42
    generalize upd Ge40 e42 (.tup [V.int 0]) = Ge42 at se42 he42 we42 ⊢
    have wGe42 := we42
    have i41_e42 := i41.same se42
    have hC2_e42 := se42 _ _ hC2_e40
    have pm_e42 := pm_e40.same se42
    have i43 := i41_e42.add (v := V.ref e42) (TVb (Bad.head (SqT.of he42) (.int 0)))
    refine ⟨by show 5 ≤ sizeLine; decide, fun M3 nM3 => ?_⟩
    have sM3 : Same Ge42 (upd Ge42 M3 (.lst [V.ref e33, V.ref e35, V.ref e37, V.ref e40, V.ref e42])) := Same.new nM3
    have hM3 : upd Ge42 M3 (.lst [V.ref e33, V.ref e35, V.ref e37, V.ref e40, V.ref e42]) M3 = some (.lst [V.ref e33, V.ref e35, V.ref e37, V.ref e40, V.ref e42]) := upd_same
    have wM3 := wGe42.new (o := .lst [V.ref e33, V.ref e35, V.ref e37, V.ref e40, V.ref e42]) nM3
    generalize upd Ge42 M3 (.lst [V.ref e33, V.ref e35, V.ref e37, V.ref e40, V.ref e42]) = GM3 at sM3 hM3 wM3 ⊢
    have wGM3 := wM3
    have i43_M3 : AllO K GM3 [V.ref e33, V.ref e35, V.ref e37, V.ref e40, V.ref e42] := i43.same sM3
    have hC2_M3 := sM3 _ _ hC2_e42
    have pm_M3 := pm_e42.same sM3
    refine ⟨C2, M3, _, _, rfl, rfl, hC2_M3, hM3, by rw [sizeLine_eq]; simp, fun C3 nC3 => ?_⟩
    have c3 := pm_M3.app i43_M3
    have sC3 : Same GM3 (upd GM3 C3 (.lst ((([V.ref e0, V.ref e2, V.ref e4, V.ref e6, V.ref e8, V.ref e10] ++ [V.ref e12, V.ref e14, V.ref e16, V.ref e18]) ++ [V.ref e20, V.ref e22, V.ref e24, V.non, V.str "set", V.ref e28, V.int 0, V.ref e31]) ++ [V.ref e33, V.ref e35, V.ref e37, V.ref e40, V.ref e42]))) := Same.new nC3
    have hC3 : upd GM3 C3 (.lst ((([V.ref e0, V.ref e2, V.ref e4, V.ref e6, V.ref e8, V.ref e10] ++ [V.ref e12, V.ref e14, V.ref e16, V.ref e18]) ++ [V.ref e20, V.ref e22, V.ref e24, V.non, V.str "set", V.ref e28, V.int 0, V.ref e31]) ++ [V.ref e33, V.ref e35, V.ref e37, V.ref e40, V.ref e42])) C3 = some (.lst ((([V.ref e0, V.ref e2, V.ref e4, V.ref e6, V.ref e8, V.ref e10] ++ [V.ref e12, V.ref e14, V.ref e16, V.ref e18]) ++ [V.ref e20, V.ref e22, V.ref e24, V.non, V.str "set", V.ref e28, V.int 0, V.ref e31]) ++ [V.ref e33, V.ref e35, V.ref e37, V.ref e40, V.ref e42])) := upd_same
    have wC3 := wGM3.new (o := .lst ((([V.ref e0, V.ref e2, V.ref e4, V.ref e6, V.ref e8, V.ref e10] ++ [V.ref e12, V.ref e14, V.ref e16, V.ref e18]) ++ [V.ref e20, V.ref e22, V.ref e24, V.non, V.str "set", V.ref e28, V.int 0, V.ref e31]) ++ [V.ref e33, V.ref e35, V.ref e37, V.ref e40, V.ref e42])) nC3
    generalize upd GM3 C3 (.lst ((([V.ref e0, V.ref e2, V.ref e4, V.ref e6, V.ref e8, V.ref e10] ++ [V.ref e12, V.ref e14, V.ref e16, V.ref e18]) ++ [V.ref e20, V.ref e22, V.ref e24, V.non, V.str "set", V.ref e28, V.int 0, V.ref e31]) ++ [V.ref e33, V.ref e35, V.ref e37, V.ref e40, V.ref e42])) = GC3 at sC3 hC3 wC3 ⊢
    have wGC3 := wC3
    have c3_C3 : AllO K GC3 ((([V.ref e0, V.ref e2, V.ref e4, V.ref e6, V.ref e8, V.ref e10] ++ [V.ref e12, V.ref e14, V.ref e16, V.ref e18]) ++ [V.ref e20, V.ref e22, V.ref e24, V.non, V.str "set", V.ref e28, V.int 0, V.ref e31]) ++ [V.ref e33, V.ref e35, V.ref e37, V.ref e40, V.ref e42]) := c3.same sC3
    refine ⟨_, rfl, ?_⟩
    have a4 : AllO K GC3 [] := AllO.nil
    refine ⟨by show 3 ≤ sizeLine; decide, fun e44 ne44 => ?_⟩
    have se44 : Same GC3 (upd GC3 e44 (.tup [V.str "noted", V.str "a", V.str "b"])) := Same.new ne44
    have he44 : upd GC3 e44 (.tup [V.str "noted", V.str "a", V.str "b"]) e44 = some (.tup [V.str "noted", V.str "a", V.str "b"]) := upd_same
    have we44 := wGC3.new (o := .tup [V.str "noted", V.str "a", V.str "b"]) ne44
    generalize upd GC3 e44 (.tup [V.str "noted", V.str "a", V.str "b"]) = Ge44 at se44 he44 we44 ⊢
    have wGe44 := we44
    have a4_e44 := a4.same se44
    have hC3_e44 := se44 _ _ hC3
    have pm_e44 := c3_C3.same se44
    have i45 := a4_e44.add (v := V.ref e44) (TVb (Bad.form (.noted "a") (SqT.of he44) ⟨by decide, .inl ⟨by decide, rfl⟩⟩))
    refine ⟨by show 1 ≤ sizeLine; decide, fun e46 ne46 => ?_⟩
    have se46 : Same Ge44 (upd Ge44 e46 (.tup [V.str "Set"])) := Same.new ne46
    have he46 : upd Ge44 e46 (.tup [V.str "Set"]) e46 = some (.tup [V.str "Set"]) := upd_same
    have we46 := wGe44.new (o := .tup [V.str "Set"]) ne46
    generalize upd Ge44 e46 (.tup [V.str "Set"]) = Ge46 at se46 he46 we46 ⊢
    have wGe46 := we46
    have i45_e46 := i45.same se46
    have hC3_e46 := se46 _ _ hC3_e44
    have pm_e46 := pm_e44.same se46
    have i47 := i45_e46.add (v := V.ref e46) (TVb (Bad.unk (SqT.of he46) (.inr rfl)))
    refine ⟨10, 30, rfl, rfl, ⟨by decide, by decide, by decide⟩, ?_⟩
    refine ⟨by show 2 ≤ sizeLine; decide, fun e48 ne48 => ?_⟩
    have se48 : Same Ge46 (upd Ge46 e48 (.tup [V.str "rang", (fun i j : Int => V.int (i ^ j.toNat)) 10 30])) := Same.new ne48
    have he48 : upd Ge46 e48 (.tup [V.str "rang", (fun i j : Int => V.int (i ^ j.toNat)) 10 30]) e48 = some (.tup [V.str "rang", (fun i j : Int => V.int (i ^ j.toNat)) 10 30]) := upd_same
    have we48 := wGe46.new (o := .tup [V.str "rang", (fun i j : Int => V.int (i ^ j.toNat)) 10 30]) ne48
    generalize upd Ge46 e48 (.tup [V.str "rang", (fun i j : Int => V.int (i ^ j.toNat)) 10 30]) = Ge48 at se48 he48 we48 ⊢
    have wGe48 := we48
    have i47_e48 := i47.same se48
    have hC3_e48 := se48 _ _ hC3_e46
    have pm_e48 := pm_e46.same se48
    have i49 := i47_e48.add (v := V.ref e48) (TVg (t := .rang (10 ^ 30)) (pw30 ▸ (SqT.of he48)) (by decide +kernel))
    refine ⟨by show 2 ≤ sizeLine; decide, fun e50 ne50 => ?_⟩
    have se50 : Same Ge48 (upd Ge48 e50 (.tup [V.str "asked", V.str "abcdefghi"])) := Same.new ne50
    have he50 : upd Ge48 e50 (.tup [V.str "asked", V.str "abcdefghi"]) e50 = some (.tup [V.str "asked", V.str "abcdefghi"]) := upd_same
    have we50 := wGe48.new (o := .tup [V.str "asked", V.str "abcdefghi"]) ne50
    generalize upd Ge48 e50 (.tup [V.str "asked", V.str "abcdefghi"]) = Ge50 at se50 he50 we50 ⊢
    have wGe50 := we50
    have i49_e50 := i49.same se50
    have hC3_e50 := se50 _ _ hC3_e48
    have pm_e50 := pm_e48.same se50
    have i51 := i49_e50.add (v := V.ref e50) (TVb (Bad.form (.asked "a") (SqT.of he50) f_asked9))
    refine ⟨by show 4 ≤ sizeLine; decide, fun M4 nM4 => ?_⟩
    have sM4 : Same Ge50 (upd Ge50 M4 (.lst [V.ref e44, V.ref e46, V.ref e48, V.ref e50])) := Same.new nM4
    have hM4 : upd Ge50 M4 (.lst [V.ref e44, V.ref e46, V.ref e48, V.ref e50]) M4 = some (.lst [V.ref e44, V.ref e46, V.ref e48, V.ref e50]) := upd_same
    have wM4 := wGe50.new (o := .lst [V.ref e44, V.ref e46, V.ref e48, V.ref e50]) nM4
    generalize upd Ge50 M4 (.lst [V.ref e44, V.ref e46, V.ref e48, V.ref e50]) = GM4 at sM4 hM4 wM4 ⊢
    have wGM4 := wM4
    have i51_M4 : AllO K GM4 [V.ref e44, V.ref e46, V.ref e48, V.ref e50] := i51.same sM4
    have hC3_M4 := sM4 _ _ hC3_e50
    have pm_M4 := pm_e50.same sM4
    refine ⟨C3, M4, _, _, rfl, rfl, hC3_M4, hM4, by rw [sizeLine_eq]; simp, fun C4 nC4 => ?_⟩
    have c4 := pm_M4.app i51_M4
    have sC4 : Same GM4 (upd GM4 C4 (.lst (((([V.ref e0, V.ref e2, V.ref e4, V.ref e6, V.ref e8, V.ref e10] ++ [V.ref e12, V.ref e14, V.ref e16, V.ref e18]) ++ [V.ref e20, V.ref e22, V.ref e24, V.non, V.str "set", V.ref e28, V.int 0, V.ref e31]) ++ [V.ref e33, V.ref e35, V.ref e37, V.ref e40, V.ref e42]) ++ [V.ref e44, V.ref e46, V.ref e48, V.ref e50]))) := Same.new nC4
    have hC4 : upd GM4 C4 (.lst (((([V.ref e0, V.ref e2, V.ref e4, V.ref e6, V.ref e8, V.ref e10] ++ [V.ref e12, V.ref e14, V.ref e16, V.ref e18]) ++ [V.ref e20, V.ref e22, V.ref e24, V.non, V.str "set", V.ref e28, V.int 0, V.ref e31]) ++ [V.ref e33, V.ref e35, V.ref e37, V.ref e40, V.ref e42]) ++ [V.ref e44, V.ref e46, V.ref e48, V.ref e50])) C4 = some (.lst (((([V.ref e0, V.ref e2, V.ref e4, V.ref e6, V.ref e8, V.ref e10] ++ [V.ref e12, V.ref e14, V.ref e16, V.ref e18]) ++ [V.ref e20, V.ref e22, V.ref e24, V.non, V.str "set", V.ref e28, V.int 0, V.ref e31]) ++ [V.ref e33, V.ref e35, V.ref e37, V.ref e40, V.ref e42]) ++ [V.ref e44, V.ref e46, V.ref e48, V.ref e50])) := upd_same
    have wC4 := wGM4.new (o := .lst (((([V.ref e0, V.ref e2, V.ref e4, V.ref e6, V.ref e8, V.ref e10] ++ [V.ref e12, V.ref e14, V.ref e16, V.ref e18]) ++ [V.ref e20, V.ref e22, V.ref e24, V.non, V.str "set", V.ref e28, V.int 0, V.ref e31]) ++ [V.ref e33, V.ref e35, V.ref e37, V.ref e40, V.ref e42]) ++ [V.ref e44, V.ref e46, V.ref e48, V.ref e50])) nC4
    generalize upd GM4 C4 (.lst (((([V.ref e0, V.ref e2, V.ref e4, V.ref e6, V.ref e8, V.ref e10] ++ [V.ref e12, V.ref e14, V.ref e16, V.ref e18]) ++ [V.ref e20, V.ref e22, V.ref e24, V.non, V.str "set", V.ref e28, V.int 0, V.ref e31]) ++ [V.ref e33, V.ref e35, V.ref e37, V.ref e40, V.ref e42]) ++ [V.ref e44, V.ref e46, V.ref e48, V.ref e50])) = GC4 at sC4 hC4 wC4 ⊢
    have wGC4 := wC4
    have c4_C4 : AllO K GC4 (((([V.ref e0, V.ref e2, V.ref e4, V.ref e6, V.ref e8, V.ref e10] ++ [V.ref e12, V.ref e14, V.ref e16, V.ref e18]) ++ [V.ref e20, V.ref e22, V.ref e24, V.non, V.str "set", V.ref e28, V.int 0, V.ref e31]) ++ [V.ref e33, V.ref e35, V.ref e37, V.ref e40, V.ref e42]) ++ [V.ref e44, V.ref e46, V.ref e48, V.ref e50]) := c4.same sC4
    refine ⟨_, rfl, _, rfl, _, rfl, C4, _, rfl, .inl (SqL.of hC4), b, c, 27, rfl, wGC4.bg, by decide, fun d H9 hd hb9 ho9 => ?_⟩
    have hM9 : H9 C4 = some (.lst (((([V.ref e0, V.ref e2, V.ref e4, V.ref e6, V.ref e8, V.ref e10] ++ [V.ref e12, V.ref e14, V.ref e16, V.ref e18]) ++ [V.ref e20, V.ref e22, V.ref e24, V.non, V.str "set", V.ref e28, V.int 0, V.ref e31]) ++ [V.ref e33, V.ref e35, V.ref e37, V.ref e40, V.ref e42]) ++ [V.ref e44, V.ref e46, V.ref e48, V.ref e50])) := by
      refine ho9.bs _ _ hC4 fun z => ?_
      obtain ⟨_, _, _, _, _, h1, _⟩ := wGC4.bg
      have hm := hC4
      rw [z, h1] at hm
      cases hm
    have hd27 : d < 27 := by omega
    obtain ⟨v, hv⟩ : ∃ v, ((((([V.ref e0, V.ref e2, V.ref e4, V.ref e6, V.ref e8, V.ref e10] ++ [V.ref e12, V.ref e14, V.ref e16, V.ref e18]) ++ [V.ref e20, V.ref e22, V.ref e24, V.non, V.str "set", V.ref e28, V.int 0, V.ref e31]) ++ [V.ref e33, V.ref e35, V.ref e37, V.ref e40, V.ref e42]) ++ [V.ref e44, V.ref e46, V.ref e48, V.ref e50]))[d]? = some v := ⟨_, List.getElem?_eq_getElem (by show d < 27; exact hd27)⟩
    have ov := c4_C4 v (List.mem_of_getElem? hv)
    refine ⟨C4, _, _, v, rfl, rfl, SqL.of hM9, atI_nat hv, ?_⟩
    refine k v H9 ?_ hb9 ((wGC4.to hb9 ho9.bs).bs)
    obtain ⟨o, ho⟩ := ov
    exact ⟨o, ho.bs ho9.bs wGC4.bg⟩
end
end K13

set_option Elab.async false
set_option maxRecDepth 100000
set_option maxHeartbeats 4000000
set_option linter.all false
namespace K13
open PySem PySem.Spec PyProof.Rows L2
def formsK : List (Key × V) := [(.inr "begin", .int 1), (.inr "answer", .int 2), (.inr "rang", .int 1), (.inr "signal", .int 2), (.inr "asked", .int 1), (.inr "set", .int 0), (.inr "dropped", .int 1), (.inr "noted", .int 1), (.inr "marked", .int 1), (.inr "ended", .int 1), (.inr "anew", .int 1)]
theorem formsK_at (t : Tok) : valV formsK (.inr t.head) = some (.int ((fms t).length : Nat)) := by
  have h : ∀ z n, (z, n) ∈ ([("begin", 1), ("answer", 2), ("rang", 1), ("signal", 2), ("asked", 1), ("set", 0), ("dropped", 1), ("noted", 1), ("marked", 1), ("ended", 1), ("anew", 1)] : List (Str × Nat)) → valV formsK (.inr z) = some (.int (n : Nat)) := by
    intro z n hz
    simp only [List.mem_cons, Prod.mk.injEq, List.not_mem_nil, or_false] at hz
    rcases hz with ⟨rfl, rfl⟩ | ⟨rfl, rfl⟩ | ⟨rfl, rfl⟩ | ⟨rfl, rfl⟩ | ⟨rfl, rfl⟩ | ⟨rfl, rfl⟩ | ⟨rfl, rfl⟩ | ⟨rfl, rfl⟩ | ⟨rfl, rfl⟩ | ⟨rfl, rfl⟩ | ⟨rfl, rfl⟩ <;> rfl
  refine h _ _ ?_
  cases t <;> simp [Tok.head, fms, Tok.rest]
theorem in_num (t : Tok) : inV (.str t.head) [.str "answer", .str "rang", .str "dropped"] = t.num?.isSome := by
  cases t <;> simp only [Tok.head, Tok.num?, Option.isSome] <;> decide +kernel
theorem in_start (t : Tok) : inV (.str t.head) [.str "asked", .str "set"] = t.start?.isSome := by
  cases t <;> simp only [Tok.head, Tok.start?, Option.isSome] <;> decide +kernel
theorem aw1 : (("answer" : Str) == "answer") = true := by decide +kernel
theorem aw2 : (("answer" : Str) == "rang") = false := by decide +kernel
theorem aw3 : (("rang" : Str) == "answer") = false := by decide +kernel
theorem aw4 : (("rang" : Str) == "rang") = true := by decide +kernel
theorem aw5 : (("dropped" : Str) == "answer") = false := by decide +kernel
theorem aw6 : (("dropped" : Str) == "rang") = false := by decide +kernel
theorem kw (k : Bool) : decide (V.str (kindS k) = V.str "ask") = k := by cases k <;> decide +kernel
theorem kw2 (k : Bool) : decide (V.str (kindS k) = V.str "timer") = !k := by cases k <;> decide +kernel
def kindL (h : Str) : Option V → Bool
  | none => false
  | some u => (!(h == "answer") || decide (u = .str "ask")) && (!(h == "rang") || decide (u = .str "timer"))
theorem kind_law {s : S} {t : Tok} {n : Nat} (en : t.num? = some n) (hn : n < s.kinds.length) : kindOk s t = kindL t.head (kindAt s (n : Nat)) := by
  have hk : kindAt s (n : Nat) = if n ∈ s.run then (s.kinds[n]?).map (fun k => V.str (kindS k)) else none := by
    unfold kindAt
    simp
  obtain ⟨kb, hkb⟩ : ∃ kb, s.kinds[n]? = some kb := ⟨_, List.getElem?_eq_getElem hn⟩
  rw [hk, hkb]
  by_cases hm : n ∈ s.run
  · have hc : s.run.contains n = true := by simpa using hm
    rw [if_pos hm, Option.map_some]
    unfold kindL
    simp only [kw, kw2]
    cases t <;> simp [Tok.num?] at en <;> subst en <;> simp only [kindOk, Tok.head, hc, hkb, aw1, aw2, aw3, aw4, aw5, aw6, Bool.true_and, Bool.not_true, Bool.not_false, Bool.false_or, Bool.true_or, Bool.and_true] <;> cases kb <;> rfl
  · have hc : s.run.contains n = false := by simpa using hm
    rw [if_neg hm]
    cases t <;> simp [Tok.num?] at en <;> subst en <;> simp only [kindOk, hc, Bool.false_and] <;> rfl
theorem kindAt_some {s : S} {n : Nat} {u : V} (h : kindAt s (n : Nat) = some u) : ∃ k, u = .str (kindS k) := by
  unfold kindAt at h
  split at h
  · cases e : s.kinds[((n : Nat) : Int).toNat]? with
    | none => rw [e] at h; cases h
    | some k => rw [e] at h; exact ⟨k, (Option.some.inj h).symm⟩
  · cases h
theorem not_gone (k : Bool) : decide (V.str (kindS k) = V.str "gone") = false := by cases k <;> decide +kernel
theorem rest_num {t : Tok} {n : Nat} (e : t.num? = some n) : t.rest = .int n :: tail2 t := by
  have h := vals_num e
  unfold Tok.vals at h
  exact (List.cons.inj h).2
theorem same_own {H0 H : Hp} {o : HO} {b : Addr} (s : Same H0 H) (n : H0 b = none) : Same H0 (upd H b o) := fun a u ha => by
  rw [upd_ne (ne_of_none ha n)]
  exact s a u ha
theorem one_lt (x y : Nat) : decide ((⟨#[x]⟩ : Str).cps.toList < (⟨#[y]⟩ : Str).cps.toList) = decide (x < y) := by
  show decide (([x] : List Nat) < [y]) = _
  by_cases h : x < y
  · simp [h, List.cons_lt_cons_iff]
  · simp [h, List.cons_lt_cons_iff]
theorem in_letters (c : Nat) : decide (c ∈ ("abcdefghijklmnopqrstuvwxyz" : Str).cps.toList) = lowC c := by
  have e : ("abcdefghijklmnopqrstuvwxyz" : Str).cps.toList = [97, 98, 99, 100, 101, 102, 103, 104, 105, 106, 107, 108, 109, 110, 111, 112, 113, 114, 115, 116, 117, 118, 119, 120, 121, 122] := by decide +kernel
  have ea : ("a" : Str) = ⟨#[97]⟩ := by decide +kernel
  have ez : ("z" : Str) = ⟨#[122]⟩ := by decide +kernel
  unfold lowC
  rw [e, ea, ez, one_lt, one_lt, Bool.eq_iff_iff]
  simp only [List.mem_cons, List.not_mem_nil, or_false, decide_eq_true_eq, Bool.and_eq_true, Bool.not_eq_true', decide_eq_false_iff_not]
  omega
theorem in_bools : ∀ l : List Bool, inV (.bl false) (l.map V.bl) = !l.all id
  | [] => rfl
  | b :: l => by
    have ih := in_bools l
    unfold inV at ih ⊢
    rw [List.map_cons, List.any_cons, ih]
    cases b <;> simp [eqV]
theorem flat_bools (l : List Bool) : (l.map V.bl).all flatV = true := by
  rw [List.all_map, List.all_eq_true]
  intro b _
  rfl
def fitO (s : S) (at_ : Nat) : Option Tok → Bool
  | none => false
  | some t => (t.isBegin == (at_ == 0)) && kindOk s t
def spFitsL (K : PySem.W.Frag) : Sp := fun vs H Q _ => ∃ (v : V) (g : Addr) (at_ : Nat) (s : S) (o : Option Tok), vs = [v, .ref g, .int at_] ∧ TV K H v o ∧ H g = some (.lst (thV s)) ∧ Good s ∧ s.kinds.length ≤ 300 ∧ ∀ H', Same H H' → Q (.bl (fitO s at_ o)) H'
section
variable {P : Program} {w : World} {K : PySem.W.Frag} {mg : Str → Option Value} {base : Heap}
theorem ok_lfits {f : Addr} {fd : FuncData} (F : FnP K "_law_fits" "_law_fits" s__law_fits f fd) (T : Tx w K mg) : FnOk P w K mg base CX0 1 f fd p__law_fits (spFitsL K) := by
  refine F.ok sc__law_fits (fun vs H Q E h => ?_) (fun cdv A outer s H vs Q E hr h => ?_)
  · obtain ⟨v, g, at_, st, o, rfl, _⟩ := h
    rfl
  · obtain ⟨v, g, at_, st, o, rfl, hv, hg, gd, few, k⟩ := h
    have hu := hu_of hr
    refine ⟨_, PSs.nox (pss_cons (ps_set (i := 3) sc__law_fits.nd rfl (.inl rfl) (pe_disp (pps_cons pe_str pe_int (pps_cons pe_str pe_int (pps_cons pe_str pe_int (pps_cons pe_str pe_int (pps_cons pe_str pe_int (pps_cons pe_str pe_int (pps_cons pe_str pe_int (pps_cons pe_str pe_int (pps_cons pe_str pe_int (pps_cons pe_str pe_int (pps_cons pe_str pe_int pps_nil))))))))))) (by rfl) (by rfl) (fun z => by cases z) (by decide)))
      (pss_cons (ps_if (PW.pt (pw_or (pt_not (pt_val (pe_callB call_isi (by rfl) T.b_isinstance (by decide +kernel) (pa_cons (pv 0) (pa_cons (pe_bltn (v := .ty "tuple") (u := .type "tuple") (by rfl) T.b_tuple (by decide +kernel) rfl) pa_nil))))) (pw_or (pt_cmpR op_eq (pe_callB call_len_seq (by rfl) T.b_len PySem.boot_len (pa_cons (pv 0) pa_nil)) pe_int (nomark _)) (pw_or1 (pt_not (pt_val (pe_callB call_isi (by rfl) T.b_isinstance (by decide +kernel) (pa_cons (pe_ix ix_tup (pv 0) pe_int (fun _ _ => rfl)) (pa_cons (pe_bltn (v := .ty "str") (u := .type "str") (by rfl) T.b_str (by decide +kernel) rfl) pa_nil))))))))) (pss_one (ps_ret pe_bl)) pss_nil)
      (pss_cons (ps_if (pt_cmp (pc_dnotin hu (pe_ix ix_tup (pv 0) pe_int (fun _ _ => rfl)) (pv 3))) (pss_one (ps_ret pe_bl)) pss_nil)
      (pss_cons (ps_if (PW.pt (pw_or (pt_cmpR op_ne (pe_callB call_len_seq (by rfl) T.b_len PySem.boot_len (pa_cons (pv 0) pa_nil)) (pe_op op_add pe_int (pe_dget hu (pv 3) (pe_ix ix_tup (pv 0) pe_int (fun _ _ => rfl)) (fun _ _ => rfl))) (nomark _)) (pw_or1 (pt_cmpR op_ne (pe_cmpR op_eq (pe_ix ix_tup (pv 0) pe_int (fun _ _ => rfl)) pe_str (nomark _)) (pe_cmpR op_eq (pv 2) pe_int (nomark _)) (nomark _))))) (pss_one (ps_ret pe_bl)) pss_nil)
      (pss_cons (ps_set (i := 4) sc__law_fits.nd rfl (.inl rfl) (pe_callTy call_list_of (by rfl) T.b_list (by decide +kernel) (pa_cons (pe_slice sl_tup (pv 0) (po_some pe_int) po_none) pa_nil)))
      (C8.pss_cut (ps_if (pt_cmpR op_in_seq (pe_ix ix_tup (pv 0) pe_int (fun _ _ => rfl)) (pe_tup (pa_cons pe_str (pa_cons pe_str (pa_cons pe_str pa_nil)))) (by rfl)) (pss_cons (ps_set (i := 6) sc__law_fits.nd rfl (.inl rfl) (pe_bm PySem.F.plainAttrs_list PySem.F.slot_list_pop PySem.F.type_list_pop mt_popAt (pv 4) (pa_cons pe_int pa_nil)))
      (pss_cons (ps_if (PW.pt (pw_or (pt_not (pt_val (pe_callB call_isi (by rfl) T.b_isinstance (by decide +kernel) (pa_cons (pv 6) (pa_cons (pe_bltn (v := .ty "int") (u := .type "int") (by rfl) T.b_int (by decide +kernel) rfl) pa_nil))))) (pw_or (pt_val (pe_callB call_isi (by rfl) T.b_isinstance (by decide +kernel) (pa_cons (pv 6) (pa_cons (pe_bltn (v := .ty "bool") (u := .type "bool") (by rfl) T.b_bool (by decide +kernel) rfl) pa_nil)))) (pw_or1 (pt_not (pt_chain op_le op_lt pe_int (pv 6) (pe_callB call_len_seq (by rfl) T.b_len PySem.boot_len (pa_cons (pv 1) pa_nil)))))))) (pss_one (ps_ret pe_bl)) pss_nil)
      (pss_cons (ps_if (PW.pt (pw_or (pt_cmpR op_eq (pe_ix ix_list (pv 1) (pv 6) (fun _ _ => rfl)) pe_str (nomark _)) (pw_or1 (PW.pt (pw_and (pt_cmpR op_eq (pe_ix ix_tup (pv 0) pe_int (fun _ _ => rfl)) pe_str (nomark _)) (pw_and1 (pt_cmpR op_ne (pe_ix ix_list (pv 1) (pv 6) (fun _ _ => rfl)) pe_str (nomark _)))))))) (pss_one (ps_ret pe_bl)) pss_nil)
      (pss_one (ps_if (PW.pt (pw_and (pt_cmpR op_eq (pe_ix ix_tup (pv 0) pe_int (fun _ _ => rfl)) pe_str (nomark _)) (pw_and1 (pt_cmpR op_ne (pe_ix ix_list (pv 1) (pv 6) (fun _ _ => rfl)) pe_str (nomark _))))) (pss_one (ps_ret pe_bl)) pss_nil))))) pss_nil)
      (pss_cons (ps_for PassesOwn.never rfl (pi_list (pv 4)) (pg_name (i := 5) sc__law_fits.nd rfl (.inl rfl)) (pss_cons (ps_if (PW.pt (pw_or (pt_not (pt_val (pe_callB call_isi (by rfl) T.b_isinstance (by decide +kernel) (pa_cons (pv 5) (pa_cons (pe_bltn (v := .ty "str") (u := .type "str") (by rfl) T.b_str (by decide +kernel) rfl) pa_nil))))) (pw_or1 (pt_not (pt_chain op_le op_le pe_int (pe_callB call_len_str (by rfl) T.b_len PySem.boot_len (pa_cons (pv 5) pa_nil)) pe_int))))) (pss_one (ps_ret pe_bl)) pss_nil)
      (pss_one (ps_if (pt_cmpR op_in_seq pe_bl (pe_lc (own := [("_law_letter", 7)]) (g := (gName 7)) (by rfl) sc__law_fits.nd (pi_str (pv 5)) (blkOk_by (N := n__law_fits) (sc := defScope s__law_fits) (by decide +kernel)) (fun _ _ _ _ _ => (pg_name (i := 7) sc__law_fits.nd rfl (.inl rfl))) (fun _ _ _ _ _ => pts_nil) (fun _ _ _ _ _ => (pe_cmpR op_in_sign (pv 7) pe_str (by rfl)))) (by rfl)) (pss_one (ps_ret pe_bl)) pss_nil))))
      (pss_one (ps_ret pe_bl))))))))), ?_⟩
    intro p np
    refine ⟨upd_same, formsK, rfl, by show 11 ≤ 15; decide, ?_⟩
    have S1 : Same H (upd (upd H p (.dK [])) p (.dK (mergeK [] formsK))) := by
      rw [upd_upd]
      exact Same.new np
    have hp1 : upd (upd H p (.dK [])) p (.dK (mergeK [] formsK)) p = some (.dK formsK) := by rw [upd_same]; rfl
    generalize upd (upd H p (.dK [])) p (.dK (mergeK [] formsK)) = H1 at S1 hp1 ⊢
    have key : (∃ ty, TyX K H1 v ty ∧ PySem.W.kitOne K ty (.type "tuple") = some false ∧ o = none) ∨ (∃ a xs, v = .ref a ∧ SqT K H1 a xs ∧ o = none ∧ (xs = [] ∨ (∃ x r, xs = x :: r ∧ NoStr K H1 x) ∨ ∃ z r, xs = .str z :: r ∧ (z = "gone" ∨ z = "Set"))) ∨
        ∃ (a : Addr) (t0 : Tok) (rs : List V), v = .ref a ∧ SqT K H1 a (.str t0.head :: rs) ∧ FormsAs t0 rs o.isSome ∧ ∀ t, o = some t → t = t0 ∧ rs = t.rest := by
      have hv1 := hv.same S1
      cases o with
      | some t =>
        obtain ⟨⟨a, e, ha⟩, hw⟩ := hv1
        exact .inr (.inr ⟨a, t, t.rest, e, ha, forms_good hw, fun t' e => by cases e; exact ⟨rfl, rfl⟩⟩)
      | none =>
        cases (show Bad K H1 v from hv1) with
        | non => exact .inl ⟨_, .base .non, kit_ty (by decide +kernel), rfl⟩
        | int i => exact .inl ⟨_, .base (.int i), kit_ty (by decide +kernel), rfl⟩
        | str z => exact .inl ⟨_, .base (.str z), kit_ty (by decide +kernel), rfl⟩
        | lst h => exact .inl ⟨_, tyL h, kit_ty (by decide +kernel), rfl⟩
        | emp h => exact .inr (.inl ⟨_, _, rfl, h, rfl, .inl rfl⟩)
        | head h n => exact .inr (.inl ⟨_, _, rfl, h, rfl, .inr (.inl ⟨_, _, rfl, n⟩)⟩)
        | unk h n => exact .inr (.inl ⟨_, _, rfl, h, rfl, .inr (.inr ⟨_, _, rfl, n⟩)⟩)
        | form t0 h n => exact .inr (.inr ⟨_, t0, _, rfl, h, n, fun t e => by cases e⟩)
    rcases key with ⟨ty, n1, n2, rfl⟩ | ⟨a, xs, rfl, ha, rfl, hx⟩ | ⟨a, t0, rs, rfl, ha, hb, ht⟩
    · refine ⟨_, rfl, v, .ty "tuple", _, _, false, rfl, .ty _, n1, n2, _, rfl, ?_⟩
      refine iteT ?_
      refine iteT ?_
      exact k H1 S1
    · refine ⟨_, rfl, .ref a, .ty "tuple", _, _, true, rfl, .ty _, tyT ha, kit_ty (by decide +kernel), _, rfl, ?_⟩
      refine iteF ⟨_, rfl, a, _, rfl, .inr ha, rfl, _, rfl, ?_⟩
      rcases hx with rfl | ⟨x, r, rfl, hn⟩ | ⟨z, r, rfl, hz⟩
      · refine iteT' (by rfl) ?_
        refine iteT ?_
        exact k H1 S1
      · refine iteF' (decide_eq_false (fun z => by
          injection z with z
          simp only [List.length_cons] at z
          omega)) ?_
        obtain ⟨ty, n1, n2⟩ := hn.ty
        refine ⟨_, rfl, a, _, _, x, rfl, rfl, ha, at0, x, .ty "str", _, _, false, rfl, .ty _, n1, n2, _, rfl, ?_⟩
        refine iteT ?_
        exact k H1 S1
      · refine iteF' (decide_eq_false (fun z => by
          injection z with z
          simp only [List.length_cons] at z
          omega)) ?_
        refine ⟨_, rfl, a, _, _, .str z, rfl, rfl, ha, at0, .str z, .ty "str", _, _, true, rfl, .ty _, .base (.str _), kit_ty (by decide +kernel), _, rfl, ?_⟩
        refine iteF ?_
        refine ⟨_, rfl, a, _, _, .str z, rfl, rfl, ha, at0, _, rfl, p, _, rfl, DGet.k (k := .inr z) hp1, _, rfl, ?_⟩
        refine iteT' (by rcases hz with rfl | rfl <;> rfl) ?_
        exact k H1 S1
    · obtain ⟨hl, hb⟩ := hb
      refine ⟨_, rfl, .ref a, .ty "tuple", _, _, true, rfl, .ty _, tyT ha, kit_ty (by decide +kernel), _, rfl, ?_⟩
      refine iteF ⟨_, rfl, a, _, rfl, .inr ha, rfl, _, rfl, ?_⟩
      have e0 : decide (V.int ((V.str t0.head :: rs).length : Int) = V.int 0) = false := decide_eq_false (fun z => by
        injection z with z
        simp only [List.length_cons] at z
        omega)
      refine iteF' e0 ?_
      refine ⟨_, rfl, a, _, _, .str t0.head, rfl, rfl, ha, at0, .str t0.head, .ty "str", _, _, true, rfl, .ty _, .base (.str _), kit_ty (by decide +kernel), _, rfl, ?_⟩
      refine iteF ?_
      have dg : DGet H1 p (.str t0.head) (some (.int ((fms t0).length : Nat))) := by rw [← formsK_at t0]; exact DGet.k (k := .inr t0.head) hp1
      refine ⟨_, rfl, a, _, _, .str t0.head, rfl, rfl, ha, at0, _, rfl, p, _, rfl, dg, _, rfl, ?_⟩
      refine iteF ?_
      refine ⟨_, rfl, a, _, rfl, .inr ha, _, rfl, _, rfl, a, _, _, .str t0.head, rfl, rfl, ha, at0, p, _, rfl, dg, _, _, rfl, rfl, rfl, _, rfl, ?_⟩
      have eb := dec_begin t0
      have ei := dec_len at_
      have gg : decide (V.bl (decide (V.str t0.head = V.str "begin")) = V.bl (decide (V.int (at_ : Nat) = V.int 0))) = (t0.isBegin == (at_ == 0)) := by
        rw [eb, ei]
        cases t0.isBegin <;> cases (at_ == 0) <;> rfl
      have kF : fitO st at_ o = false → ∀ H', Same H H' → Q (.bl false) H' := fun e => by rw [e] at k; exact k
      rcases hb with ⟨h1, h2⟩ | ⟨h1, bs, h2, h3, h4⟩
      · have e1 : (!decide (V.int ((V.str t0.head :: rs).length : Int) = V.int (1 + ((fms t0).length : Int)))) = true := by
          rw [decide_eq_false (fun z => by
            injection z with z
            simp only [List.length_cons] at z
            omega)]
          rfl
        refine iteT' e1 ?_
        refine iteT ?_
        refine kF ?_ _ S1
        cases o with
        | none => rfl
        | some t => cases h2
      · have e1 : (!decide (V.int ((V.str t0.head :: rs).length : Int) = V.int (1 + ((fms t0).length : Int)))) = false := by
          rw [decide_eq_true (by
            congr 1
            simp only [List.length_cons]
            omega)]
          rfl
        refine iteF' e1 ?_
        refine ⟨_, rfl, a, _, _, .str t0.head, rfl, rfl, ha, at0, rfl, _, rfl, rfl, rfl, _, rfl, ?_⟩
        cases g2 : (t0.isBegin == (at_ == 0)) with
        | false =>
          refine iteT' (by rw [gg, g2]; rfl) ?_
          refine kF ?_ _ S1
          cases o with
          | none => rfl
          | some t =>
            obtain ⟨rfl, _⟩ := ht t rfl
            simp [fitO, g2]
        | true =>
          refine iteF' (by rw [gg, g2]; rfl) ?_
          -- words
          refine ⟨_, rfl, 1, rfl, a, _, rfl, ha, ?_, fun q nq => ?_⟩
          · rintro ⟨z, _⟩
            simp [HT.sIx] at z
          have ec : cutV (.str t0.head :: rs) (some 1) none = rs := by
            unfold cutV
            simp [HT.sIx]
          rw [ec]
          have S2 : Same H1 (upd H1 q (.tup rs)) := Same.new nq
          have hq2 : upd H1 q (.tup rs) q = some (.tup rs) := upd_same
          generalize upd H1 q (.tup rs) = H2 at S2 hq2 ⊢
          refine ⟨q, rs, rfl, .inr (SqT.of hq2), fun l nl => ?_⟩
          have S3 : Same H2 (upd H2 l (.lst rs)) := Same.new nl
          have hl3 : upd H2 l (.lst rs) l = some (.lst rs) := upd_same
          have hl0 : H l = none := (S1.trans S2).free nl
          have ha3 := sameT (S2.trans S3) ha
          have S13 := (S1.trans S2).trans S3
          generalize upd H2 l (.lst rs) = H3 at S3 hl3 ha3 S13 ⊢
          refine ⟨fun σ' H' => ∃ (ws : List V) (bw : List Bool) (v5 v6 : Option V), σ' = [some (.ref a), some (.ref g), some (.int (at_ : Nat)), some (.ref p), some (.ref l), v5, v6, none] ∧ Same H H' ∧ H' l = some (.lst ws) ∧ bw.length = ws.length ∧
            (∀ i, ∀ h2 : i < ws.length, ∀ h3 : i < bw.length, Fit (.str "word") ws[i] bw[i]) ∧ ws.length ≤ 2 ∧ o.isSome = bw.all id ∧ ∀ t, o = some t → kindOk st t = true, ?_, ?_⟩
          · refine ⟨_, rfl, a, _, _, .str t0.head, rfl, rfl, ha3, at0, by show 3 ≤ sizeLine; decide, fun e ne => ⟨e, _, rfl, .inr (SqT.of upd_same), rfl, rfl, _, rfl, ?_⟩⟩
            have Se : Same H3 (upd H3 e (.tup [V.str "answer", V.str "rang", V.str "dropped"])) := Same.new ne
            have ha4 := sameT Se ha3
            have hl4 := Se _ _ hl3
            have S14 := S13.trans Se
            generalize upd H3 e (.tup [V.str "answer", V.str "rang", V.str "dropped"]) = H4 at ha4 hl4 S14 ⊢
            rw [in_num]
            cases en : t0.num? with
            | none =>
              refine iteF ⟨rs, bs, none, none, rfl, S14, hl4, h2, fun i g2 g3 => ?_, hl, h4, fun t e => ?_⟩
              · have hi : i < (fms t0).length := by omega
                have hf := h3 i hi g2 g3
                have ew : (fms t0)[i] = .str "word" := by
                  have : ∀ x ∈ fms t0, x = .str "word" := by
                    cases t0 <;> simp_all [Tok.num?, fms, Tok.rest, kindV]
                  exact this _ (List.getElem_mem hi)
                rwa [ew] at hf
              · obtain ⟨rfl, _⟩ := ht t e
                cases t <;> simp_all [Tok.num?, kindOk]
            | some n0 =>
              refine iteT ?_
              obtain ⟨fw, efw, hfw⟩ : ∃ fw : List V, fms t0 = .str "number" :: fw ∧ ∀ x ∈ fw, x = .str "word" := by
                cases t0 <;> simp_all [Tok.num?, fms, Tok.rest, kindV]
              obtain ⟨x, ws, rfl⟩ : ∃ x ws, rs = x :: ws := by
                cases rs with
                | nil => rw [efw] at h1; cases h1
                | cons x ws => exact ⟨x, ws, rfl⟩
              obtain ⟨b0, bw, rfl⟩ : ∃ b0 bw, bs = b0 :: bw := by
                cases bs with
                | nil => cases h2
                | cons x ws => exact ⟨x, ws, rfl⟩
              have hf0 : Fit (.str "number") x b0 := by
                have := h3 0 (by rw [efw]; exact Nat.succ_pos _) (Nat.succ_pos _) (Nat.succ_pos _)
                simp only [efw, List.getElem_cons_zero] at this
                exact this
              have hfs : ∀ i, ∀ g2 : i < ws.length, ∀ g3 : i < bw.length, Fit (.str "word") ws[i] bw[i] := fun i g2 g3 => by
                have hi : i + 1 < (fms t0).length := by rw [h1.symm]; exact Nat.succ_lt_succ g2
                have := h3 (i + 1) hi (Nat.succ_lt_succ g2) (Nat.succ_lt_succ g3)
                have ew : (fms t0)[i + 1] = .str "word" := by
                  have hi' : i + 1 < (V.str "number" :: fw).length := by rw [← efw]; exact hi
                  have : (fms t0)[i + 1] = (V.str "number" :: fw)[i + 1]'hi' := by simp only [efw]
                  rw [this, List.getElem_cons_succ]
                  exact hfw _ (List.getElem_mem _)
                rw [ew] at this
                exact this
              refine ⟨_, rfl, Or.inl ⟨rfl, _, SqL.of hl4⟩, l, _, 0, 0, x, rfl, rfl, hl4, by omega, by omega, seqIx (by show 0 < ws.length + 1; omega), rfl, ?_⟩
              have e0 : ∀ {α : Type} (y : α) (ys : List α), (y :: ys).eraseIdx 0 = ys := fun _ _ => rfl
              rw [e0]
              have S15 : Same H (upd H4 l (.lst ws)) := same_own S14 hl0
              have hl5 : upd H4 l (.lst ws) l = some (.lst ws) := upd_same
              have ha5 : SqT K (upd H4 l (.lst ws)) a (.str t0.head :: x :: ws) := updT hl4 ha4
              generalize upd H4 l (.lst ws) = H5 at S15 hl5 ha5 ⊢
              have hg5 := S15 _ _ hg
              have none_of : b0 = false → fitO st at_ o = false := fun e => by
                rw [e] at h4
                cases o with
                | none => rfl
                | some t => simp at h4
              cases hf0 with
              | txt z =>
                refine ⟨_, rfl, .str z, .ty "int", _, _, false, rfl, .ty _, .base (.str z), kit_ty (by decide +kernel), _, rfl, ?_⟩
                refine iteT ?_
                refine iteT ?_
                exact kF (none_of rfl) _ S15
              | flag c =>
                refine ⟨_, rfl, .bl c, .ty "int", _, _, true, rfl, .ty _, .base (.bl c), kit_ty (by decide +kernel), _, rfl, ?_⟩
                refine iteF ?_
                refine ⟨_, rfl, .bl c, .ty "bool", _, _, true, rfl, .ty _, .base (.bl c), kit_ty (by decide +kernel), _, rfl, ?_⟩
                refine iteT ?_
                refine iteT ?_
                exact kF (none_of rfl) _ S15
              | num i =>
                refine ⟨_, rfl, .int i, .ty "int", _, _, true, rfl, .ty _, .base (.int i), kit_ty (by decide +kernel), _, rfl, ?_⟩
                refine iteF ?_
                refine ⟨_, rfl, .int i, .ty "bool", _, _, false, rfl, .ty _, .base (.int i), kit_ty (by decide +kernel), _, rfl, ?_⟩
                refine iteF ?_
                refine ⟨_, rfl, _, _, rfl, rfl, _, rfl, ?_⟩
                by_cases h0 : 0 ≤ i
                · refine iteT' (decide_eq_true h0) ⟨_, rfl, g, _, rfl, .inl (SqL.of hg5), _, _, rfl, rfl, _, rfl, ?_⟩
                  by_cases hlen : i < ((thV st).length : Nat)
                  · refine iteF' (by rw [decide_eq_true hlen]; rfl) ?_
                    have hn : i.toNat < st.kinds.length := by rw [thV_len] at hlen; omega
                    have ei : i = (i.toNat : Nat) := by omega
                    have hz := thV_get hn
                    have good : ∀ t, o = some t → kindOk st t = kindL t0.head (kindAt st (i.toNat : Nat)) := fun t e => by
                      obtain ⟨rfl, hx⟩ := ht t e
                      rw [rest_num en] at hx
                      have : i = (n0 : Nat) := by
                        have := (List.cons.inj hx).1
                        injection this
                      have e2 : i.toNat = n0 := by omega
                      rw [e2] at hn ⊢
                      exact kind_law en hn
                    have bad : kindL t0.head (kindAt st (i.toNat : Nat)) = false → fitO st at_ o = false := fun e => by
                      cases o with
                      | none => rfl
                      | some t => simp only [fitO, good t rfl, e, Bool.and_false]
                    cases ek : kindAt st (i.toNat : Nat) with
                    | none =>
                      rw [ek] at hz bad
                      refine ⟨_, rfl, _, rfl, g, _, _, .str "gone", rfl, rfl, SqL.of hg5, by rw [ei]; exact atI_nat hz, rfl, _, rfl, ?_⟩
                      refine iteT' (by decide +kernel) ?_
                      refine iteT ?_
                      exact kF (bad rfl) _ S15
                    | some u =>
                      rw [ek] at hz bad good
                      obtain ⟨kb, rfl⟩ := kindAt_some ek
                      have hat : atI (thV st) i = some (.str (kindS kb)) := by rw [ei]; exact atI_nat hz
                      refine ⟨_, rfl, _, rfl, g, _, _, .str (kindS kb), rfl, rfl, SqL.of hg5, hat, rfl, _, rfl, ?_⟩
                      refine iteF' (not_gone kb) ?_
                      refine ⟨_, rfl, a, _, _, .str t0.head, rfl, rfl, ha5, at0, rfl, _, rfl, ?_⟩
                      have h4' : o.isSome = bw.all id := by
                        rw [h4]
                        simp [h0]
                      have pass : kindL t0.head (some (.str (kindS kb))) = true → ∀ t, o = some t → kindOk st t = true := fun e t et => (good t et).trans e
                      have lw : ws.length ≤ 2 := by simp only [List.length_cons] at hl; omega
                      have lb : bw.length = ws.length := by simpa using h2
                      have kA : decide (V.str (kindS kb) = V.str "ask") = kb := kw kb
                      have kT : decide (V.str (kindS kb) = V.str "timer") = !kb := kw2 kb
                      have d1 : decide (V.str t0.head = V.str "answer") = (t0.head == "answer") := dec_str _ _
                      have d2 : decide (V.str t0.head = V.str "rang") = (t0.head == "rang") := dec_str _ _
                      cases hA : (t0.head == "answer") with
                      | true =>
                        have hh : t0.head = "answer" := by simpa using hA
                        have hR : (t0.head == "rang") = false := by rw [hh]; exact aw2
                        refine iteT' (d1.trans hA) ⟨_, rfl, _, rfl, g, _, _, .str (kindS kb), rfl, rfl, SqL.of hg5, hat, rfl, _, rfl, ?_⟩
                        cases kb with
                        | true =>
                          refine iteF' (by rw [kA]; rfl) ?_
                          refine ⟨_, rfl, a, _, _, .str t0.head, rfl, rfl, ha5, at0, rfl, _, rfl, ?_⟩
                          refine iteF' (d2.trans hR) ?_
                          refine iteF ?_
                          exact ⟨ws, bw, none, some (.int i), rfl, S15, hl5, lb, hfs, lw, h4', pass (by unfold kindL; simp only [hA, hR, kw]; rfl)⟩
                        | false =>
                          refine iteT' (by rw [kA]; rfl) ?_
                          exact kF (bad (by unfold kindL; simp only [hA, kw]; rfl)) _ S15
                      | false =>
                        refine iteF' (d1.trans hA) ?_
                        refine iteF ?_
                        refine ⟨_, rfl, a, _, _, .str t0.head, rfl, rfl, ha5, at0, rfl, _, rfl, ?_⟩
                        cases hR : (t0.head == "rang") with
                        | true =>
                          refine iteT' (d2.trans hR) ⟨_, rfl, _, rfl, g, _, _, .str (kindS kb), rfl, rfl, SqL.of hg5, hat, rfl, _, rfl, ?_⟩
                          cases kb with
                          | true =>
                            refine iteT' (by rw [kT]; rfl) ?_
                            exact kF (bad (by unfold kindL; simp only [hA, hR, kw2]; rfl)) _ S15
                          | false =>
                            refine iteF' (by rw [kT]; rfl) ?_
                            exact ⟨ws, bw, none, some (.int i), rfl, S15, hl5, lb, hfs, lw, h4', pass (by unfold kindL; simp only [hA, hR, kw2]; rfl)⟩
                        | false =>
                          refine iteF' (d2.trans hR) ?_
                          refine iteF ?_
                          exact ⟨ws, bw, none, some (.int i), rfl, S15, hl5, lb, hfs, lw, h4', pass (by unfold kindL; simp only [hA, hR]; rfl)⟩
                  · refine iteT' (by rw [decide_eq_false hlen]; rfl) ?_
                    refine kF ?_ _ S15
                    cases o with
                    | none => rfl
                    | some t =>
                      obtain ⟨rfl, e⟩ := ht t rfl
                      have : kindOk st t = false := by
                        have hx := e
                        cases t <;> simp [Tok.num?] at en <;> simp only [Tok.rest, List.cons.injEq, V.int.injEq] at hx <;> obtain ⟨rfl, _⟩ := hx <;> simp only [kindOk] <;> simp <;> intro hm <;> (have := gd.few' _ hm; rw [thV_len] at hlen; omega)
                      simp [fitO, this]
                · refine iteF' (decide_eq_false h0) ?_
                  refine ⟨_, rfl, ?_⟩
                  refine iteT' (by rfl) ?_
                  exact kF (none_of (decide_eq_false h0)) _ S15
          · rintro σ' H4 ⟨ws, bw, v5, v6, rfl, S4, hl4, ebl, hfs, lws, eo, ek⟩
            have off : ∀ j, ∀ h : j < bw.length, bw[j] = false → fitO st at_ o = false := fun j h e => by
              have : bw.all id = false := by
                rw [Bool.eq_false_iff]
                intro z
                have := List.all_eq_true.mp z _ (List.getElem_mem h)
                rw [e] at this
                cases this
              rw [this] at eo
              cases o with
              | none => rfl
              | some t => cases eo
            refine ⟨_, rfl, l, rfl, ⟨_, SqL.of hl4⟩, ?_⟩
            refine for_list (K := K) (a := l) (xs := ws) (fun j σ H' => ∃ (v5 : Option V), σ = [some (.ref a), some (.ref g), some (.int (at_ : Nat)), some (.ref p), some (.ref l), v5, v6, none] ∧ Same H4 H' ∧ (bw.take j).all id = true)
              ⟨v5, rfl, Same.refl _, by simp⟩ (fun j σ H' _ q => ?_) (fun j x σ H' hj q => ?_) (fun σ H' q => ?_)
            · obtain ⟨_, _, S, _⟩ := q
              exact SqL.of (S _ _ hl4)
            · obtain ⟨v5, rfl, S, all⟩ := q
              have hjl : j < ws.length := (List.getElem?_eq_some_iff.mp hj).1
              have hjb : j < bw.length := by omega
              have hx : ws[j] = x := (List.getElem?_eq_some_iff.mp hj).2
              have hf := hfs j hjl hjb
              rw [hx] at hf
              have S5 := S4.trans S
              generalize ebj : bw[j] = bj at hf
              have offj := off j hjb
              rw [ebj] at offj
              have onj : bj = true → (bw.take (j + 1)).all id = true := fun e => by
                rw [take_more (List.getElem?_eq_getElem hjb), List.all_append, all, ebj, e]
                rfl
              cases hf with
              | wint i =>
                refine ⟨_, rfl, .int i, .ty "str", _, _, false, rfl, .ty _, .base (.int i), kit_ty (by decide +kernel), _, rfl, ?_⟩
                refine iteT ?_
                refine iteT ?_
                exact kF (offj rfl) _ S5
              | wnon =>
                refine ⟨_, rfl, .non, .ty "str", _, _, false, rfl, .ty _, .base .non, kit_ty (by decide +kernel), _, rfl, ?_⟩
                refine iteT ?_
                refine iteT ?_
                exact kF (offj rfl) _ S5
              | word z hz =>
                refine ⟨_, rfl, .str z, .ty "str", _, _, true, rfl, .ty _, .base (.str z), kit_ty (by decide +kernel), _, rfl, ?_⟩
                refine iteF ?_
                refine tchainC (i := 1) (j := (z.length : Int)) (c := 8) val_c (fun Q q => ⟨_, rfl, _, rfl, hz, q⟩) ⟨_, rfl, ?_⟩
                cases ez : (decide (1 ≤ (z.length : Int)) && decide ((z.length : Int) ≤ 8)) with
                | false =>
                  refine iteT ?_
                  exact kF (offj (by unfold isWord; rw [ez]; rfl)) _ S5
                | true =>
                  refine iteF ?_
                  refine ⟨_, rfl, _, rfl, fun D nD => ?_⟩
                  have SD := S5.trans (Same.new (o := .lst ((z.cps.toList.map lowC).map V.bl)) nD)
                  refine lc_it (walk_str (z := z)) (fun i H6 => H6 = upd H' D (.lst (((z.cps.toList.map lowC).take i).map V.bl))) rfl (fun _ _ _ _ => trivial) (fun i x H1 H2 hi p y => ?_) (fun H1 p => ?_)
                  · obtain ⟨rfl, c, hc, rfl⟩ := y
                    subst p
                    refine ⟨rfl, ?_⟩
                    refine tYes_ ?_
                    refine iteT ?_
                    refine ⟨_, rfl, c, _, rfl, rfl, ?_⟩
                    rw [in_letters]
                    refine ⟨_, upd_same, ?_, ?_⟩
                    · rw [List.length_map, List.length_take, List.length_map]
                      refine small1000 ?_
                      simp only [Bool.and_eq_true, decide_eq_true_eq] at ez
                      have : z.cps.toList.length = z.length := by simp [Str.length]
                      omega
                    · rw [upd_upd]
                      have hc' : (z.cps.toList.map lowC)[i]? = some (lowC c) := by
                        rw [List.getElem?_map, Array.getElem?_toList, hc]; rfl
                      rw [take_more hc', List.map_append]
                      rfl
                  · have p' : H1 = upd H' D (.lst ((z.cps.toList.map lowC).map V.bl)) := by rw [p, List.take_of_length_le (by simp)]
                    clear p
                    subst p'
                    refine ⟨D, (z.cps.toList.map lowC).map V.bl, rfl, .inl (SqL.of upd_same), rfl, flat_bools _, ?_⟩
                    · rw [in_bools]
                      have ew : isWord z = (z.cps.toList.map lowC).all id := by unfold isWord; rw [ez]; rfl
                      rw [← ew]
                      cases eb : isWord z with
                      | false =>
                        refine ⟨_, rfl, iteT' (by rfl) ?_⟩
                        exact kF (offj eb) _ SD
                      | true =>
                        refine ⟨_, rfl, iteF' (by rfl) ?_⟩
                        exact ⟨_, rfl, S.trans (Same.new nD), onj eb⟩
            · obtain ⟨v5, rfl, S, all⟩ := q
              rw [← ebl, List.take_length] at all
              rw [all] at eo
              have e : fitO st at_ o = true := by
                cases o with
                | none => cases eo
                | some t =>
                  obtain ⟨rfl, _⟩ := ht t rfl
                  simp only [fitO, ek t rfl, g2, Bool.and_true]
              rw [e] at k
              exact k _ (S4.trans S)
end
end K13

set_option Elab.async false
set_option maxRecDepth 100000
set_option maxHeartbeats 4000000
set_option linter.all false
namespace K13
open PySem PySem.Spec PyProof.Rows L2
theorem thV_start {s : S} (g : Good s) {t : Tok} {k : Bool} (es : t.start? = some k) : thV (go s t) = thV s ++ [.str (kindS k)] := by
  have ego : go s t = ⟨s.run ++ [s.kinds.length], s.kinds ++ [k], ths0 s t ++ [s.kinds.length], s.len + 1, t.last⟩ := by unfold go; rw [es]
  unfold thV
  rw [ego]
  show (List.range (s.kinds ++ [k]).length).map _ = _
  rw [List.length_append, List.length_singleton, List.range_succ, List.map_append]
  congr 1
  · refine List.map_congr_left fun i hi => ?_
    have : i < s.kinds.length := List.mem_range.mp hi
    rw [kind_start g, if_neg (by omega)]
  · simp only [List.map_cons, List.map_nil]
    rw [kind_start g, if_pos rfl]
    rfl
theorem thV_num {s : S} (g : Good s) {t : Tok} {n : Nat} (en : t.num? = some n) : thV (go s t) = (thV s).set n (.str "gone") := by
  have es : t.start? = none := by cases t <;> simp_all [Tok.num?, Tok.start?]
  have ego : go s t = ⟨s.run.erase n, s.kinds, ths0 s t, s.len + 1, t.last⟩ := by unfold go; rw [es, en]
  refine List.ext_getElem? fun i => ?_
  rw [List.getElem?_set]
  have el : (thV (go s t)).length = (thV s).length := by rw [thV_len, thV_len, ego]
  by_cases hi : i < s.kinds.length
  · have h1 : (thV (go s t))[i]? = some ((kindAt (go s t) (i : Nat)).getD (.str "gone")) := thV_get (by rw [ego]; exact hi)
    rw [h1, ego, kind_drop g, thV_get hi, thV_len]
    by_cases h : n = i
    · subst h
      rw [if_pos rfl, if_pos rfl, if_pos hi]
      rfl
    · rw [if_neg (by omega), if_neg h]
  · have h1 : (thV (go s t))[i]? = none := List.getElem?_eq_none (by rw [el, thV_len]; omega)
    have h2 : (thV s)[i]? = none := List.getElem?_eq_none (by rw [thV_len]; omega)
    rw [h1, h2, thV_len]
    by_cases h : n = i
    · rw [if_pos h, if_neg (by omega)]
    · rw [if_neg h]
theorem thV_other {s : S} {t : Tok} (es : t.start? = none) (en : t.num? = none) : thV (go s t) = thV s := by
  have ego : go s t = ⟨s.run, s.kinds, ths0 s t, s.len + 1, t.last⟩ := by unfold go; rw [es, en]
  rw [ego]
  rfl
theorem kinds_go (s : S) (t : Tok) : (go s t).kinds.length ≤ s.kinds.length + 1 := by
  unfold go
  split
  · simp
  · split <;> simp
def spEnter (K : PySem.W.Frag) : Sp := fun vs H Q _ => ∃ (v : V) (g : Addr) (t : Tok) (s : S), vs = [v, .ref g] ∧ TokAt K H v t ∧ H g = some (.lst (thV s)) ∧ Good s ∧ s.kinds.length ≤ 300 ∧ kindOk s t = true ∧ ∀ H', Bs H H' g → H' g = some (.lst (thV (go s t))) → Q .non H'
def startK : List (Key × V) := [(.inr "asked", .str "ask"), (.inr "set", .str "timer")]
theorem startK_at {t : Tok} {k : Bool} (h : t.start? = some k) : valV startK (.inr t.head) = some (.str (kindS k)) := by
  cases t <;> simp [Tok.start?] at h <;> subst h <;> rfl
theorem ixN_at {n j : Nat} (hj : j < n) : ixN n (j : Int) = some j := by
  unfold ixN
  simp [hj]
theorem num_run {s : S} {t : Tok} {n : Nat} (en : t.num? = some n) (k : kindOk s t = true) : n ∈ s.run := by
  cases t <;> simp [Tok.num?] at en <;> subst en <;> simp_all [kindOk]
section
variable {P : Program} {w : World} {K : PySem.W.Frag} {mg : Str → Option Value} {base : Heap}
theorem ok_enter {f : Addr} {fd : FuncData} (F : FnP K "_law_enter" "_law_enter" s__law_enter f fd) (T : Tx w K mg) : FnOk P w K mg base CX0 1 f fd p__law_enter (spEnter K) := by
  refine F.ok sc__law_enter (fun vs H Q E h => ?_) (fun cdv A outer s H vs Q E hr h => ?_)
  · obtain ⟨v, g, t, st, rfl, _⟩ := h
    rfl
  · obtain ⟨v, g, t, st, rfl, hv, hg, gd, few, ko, k⟩ := h
    have hu := hu_of hr
    refine ⟨_, PSs.nox (C8.pss_cut (ps_if (pt_cmpR op_in_seq (pe_ix ix_tup (pv 0) pe_int (fun _ _ => rfl)) (pe_tup (pa_cons pe_str (pa_cons pe_str pa_nil))) (by rfl)) (pss_one (ps_expr (pe_bm PySem.F.plainAttrs_list PySem.F.slot_list_append PySem.F.type_list_append mt_append (pv 1) (pa_cons (pe_dget hu (pe_disp (pps_cons pe_str pe_str (pps_cons pe_str pe_str pps_nil)) (by rfl) (by rfl) (fun z => by cases z) (by decide)) (pe_ix ix_tup (pv 0) pe_int (fun _ _ => rfl)) (fun _ _ => rfl)) pa_nil)))) pss_nil)
      (pss_one (ps_if (pt_cmpR op_in_seq (pe_ix ix_tup (pv 0) pe_int (fun _ _ => rfl)) (pe_tup (pa_cons pe_str (pa_cons pe_str (pa_cons pe_str pa_nil)))) (by rfl)) (pss_one (ps_asg pe_str (pg_sub (pv 1) (pe_ix ix_tup (pv 0) pe_int (fun _ _ => rfl)) set_list))) pss_nil))), ?_⟩
    obtain ⟨a, rfl, ha⟩ := hv
    refine ⟨fun σ' H' => σ' = [some (.ref a), some (.ref g)] ∧ Bs H H' g ∧ SqT K H' a t.vals ∧ (t.num? = none → H' g = some (.lst (thV (go st t)))) ∧ (∀ n, t.num? = some n → H' g = some (.lst (thV st))), ?_, ?_⟩
    · refine ⟨_, rfl, a, _, _, .str t.head, rfl, rfl, ha, at0, by show 2 ≤ sizeLine; decide, fun e ne => ⟨e, _, rfl, .inr (SqT.of upd_same), rfl, rfl, _, rfl, ?_⟩⟩
      have Se : Same H (upd H e (.tup [V.str "asked", V.str "set"])) := Same.new ne
      have ha1 := sameT Se ha
      have hg1 := Se _ _ hg
      generalize upd H e (.tup [V.str "asked", V.str "set"]) = H1 at Se ha1 hg1 ⊢
      rw [in_start]
      cases es : t.start? with
      | none =>
        refine iteF ⟨rfl, Same.bs Se, ha1, fun en => ?_, fun n en => hg1⟩
        rw [thV_other es en]
        exact hg1
      | some kd =>
        refine iteT ?_
        have en : t.num? = none := by cases t <;> simp_all [Tok.num?, Tok.start?]
        refine ⟨_, rfl, Or.inl ⟨rfl, _, SqL.of hg1⟩, ?_⟩
        intro p np
        refine ⟨upd_same, startK, rfl, by show 2 ≤ 15; decide, ?_⟩
        have S2 : Same H1 (upd (upd H1 p (.dK [])) p (.dK (mergeK [] startK))) := by
          rw [upd_upd]
          exact Same.new np
        have hp1 : upd (upd H1 p (.dK [])) p (.dK (mergeK [] startK)) p = some (.dK startK) := by rw [upd_same]; rfl
        have ha2 := sameT S2 ha1
        have hg2 := S2 _ _ hg1
        generalize upd (upd H1 p (.dK [])) p (.dK (mergeK [] startK)) = H2 at S2 hp1 ha2 hg2 ⊢
        have dg : DGet H2 p (.str t.head) (some (.str (kindS kd))) := by rw [← startK_at es]; exact DGet.k (k := .inr t.head) hp1
        refine ⟨_, rfl, a, _, _, .str t.head, rfl, rfl, ha2, at0, p, _, rfl, dg, g, _, _, rfl, rfl, hg2, small1000 (by rw [thV_len]; omega), ?_⟩
        refine ⟨rfl, (Same.bs (Se.trans S2)).trans (Only.upd (b := g)).bs, updT hg2 ha2, fun _ => ?_, fun n z => by rw [en] at z; cases z⟩
        rw [upd_same, thV_start gd es]
    · rintro σ' H1 ⟨rfl, B1, ha1, h1, h2⟩
      refine ⟨_, rfl, a, _, _, .str t.head, rfl, rfl, ha1, at0, by show 3 ≤ sizeLine; decide, fun e ne => ⟨e, _, rfl, .inr (SqT.of upd_same), rfl, rfl, _, rfl, ?_⟩⟩
      have Se : Same H1 (upd H1 e (.tup [V.str "answer", V.str "rang", V.str "dropped"])) := Same.new ne
      have ha2 := sameT Se ha1
      have h1' := fun z => Se _ _ (h1 z)
      have h2' := fun n z => Se _ _ (h2 n z)
      generalize upd H1 e (.tup [V.str "answer", V.str "rang", V.str "dropped"]) = H2 at Se ha2 h1' h2' ⊢
      rw [in_num]
      cases en : t.num? with
      | none => exact iteF (k _ (B1.trans (Same.bs Se)) (h1' en))
      | some n =>
        refine iteT ?_
        have hg2 := h2' n en
        have hn : n < st.kinds.length := gd.few' _ (num_run en ko)
        have ev := vals_num en
        rw [ev] at ha2
        refine ⟨_, rfl, _, rfl, a, _, _, .int n, rfl, rfl, ha2, at1, g, _, _, n, rfl, rfl, hg2, ixN_at (by rw [thV_len]; exact hn), ?_⟩
        refine k _ ((B1.trans (Same.bs Se)).trans (Only.upd (b := g)).bs) ?_
        rw [upd_same, thV_num gd en]
end
end K13

set_option Elab.async false
set_option maxRecDepth 100000
set_option maxHeartbeats 4000000
set_option linter.all false
namespace K13
open PySem PySem.Spec PyProof.Rows L2
def spFault (K : PySem.W.Frag) : Sp := fun vs H Q _ => ∃ (h : Addr) (xs : List V) (os : List (Option Tok)), vs = [.ref h] ∧ SqL K H h xs ∧ All2 (TV K H) xs os ∧ os.length ≤ 299 ∧ ∀ H', Same H H' → Q (fv (gone s0 0 os)) H'
/-- what is new stays beside what was -/
theorem stays_new {H H1 H2 : Hp} {g : Addr} (s : Same H H1) (n : H g = none) (b : Bs H1 H2 g) : Same H H2 := fun x o hx => b x o (s x o hx) (ne_of_none hx n)
section
variable {P : Program} {w : World} {K : PySem.W.Frag} {mg : Str → Option Value} {base : Heap}
theorem ok_fault {f : Addr} {fd : FuncData} (F : FnP K "_law_fault" "_law_fault" s__law_fault f fd) (T : Tx w K mg) (G__law_fits : Def P w K mg base CX0 1 "_law_fits" p__law_fits (spFitsL K))
    (G__law_enter : Def P w K mg base CX0 1 "_law_enter" p__law_enter (spEnter K)) : FnOk P w K mg base CX0 2 f fd p__law_fault (spFault K) := by
  refine F.ok sc__law_fault (fun vs H Q E h => ?_) (fun cdv A outer s H vs Q E hr h => ?_)
  · obtain ⟨h, xs, os, rfl, _⟩ := h
    rfl
  · obtain ⟨h, xs, os, rfl, hl, hos, few, k⟩ := h
    have hu := hu_of hr
    have el := hos.len
    refine ⟨_, PSs.nox (pss_cons (ps_set (i := 1) sc__law_fault.nd rfl (.inl rfl) (pe_lst pa_nil))
      (pss_cons (ps_set (i := 2) sc__law_fault.nd rfl (.inl rfl) pe_bl)
      (pss_cons (ps_for PassesOwn.never rfl (pi_range1 (by rfl) T.b_range (pa_cons (pe_callB call_len_seq (by rfl) T.b_len PySem.boot_len (pa_cons (pv 0) pa_nil)) pa_nil)) (pg_name (i := 3) sc__law_fault.nd rfl (.inl rfl)) (pss_cons (ps_if (PW.pt (pw_or (pt_val (pv 2)) (pw_or1 (pt_not (pt_val (pe_fn G__law_fits (hr.mono (by decide)) (by rfl) pass0 (pa_cons (pe_ix ix_list (pv 0) (pv 3) (fun _ _ => rfl)) (pa_cons (pv 1) (pa_cons (pv 3) pa_nil))))))))) (pss_one (ps_ret (pv 3))) pss_nil)
      (pss_cons (ps_expr (pe_fn G__law_enter (hr.mono (by decide)) (by rfl) pass0 (pa_cons (pe_ix ix_list (pv 0) (pv 3) (fun _ _ => rfl)) (pa_cons (pv 1) pa_nil))))
      (pss_one (ps_set (i := 2) sc__law_fault.nd rfl (.inl rfl) (pe_cmpR op_in_seq (pe_ix ix_tup (pe_ix ix_list (pv 0) (pv 3) (fun _ _ => rfl)) pe_int (fun _ _ => rfl)) (pe_tup (pa_cons pe_str (pa_cons pe_str pa_nil))) (by rfl)))))))
      (pss_one (ps_ret pe_non))))), ?_⟩
    refine ⟨by show 0 ≤ sizeLine; decide, fun g ng => ?_⟩
    have Sg : Same H (upd H g (.lst [])) := Same.new ng
    refine ⟨_, rfl, h, xs, rfl, .inl (Sg.seq hl), ?_⟩
    refine ⟨(xs.length : Nat), rfl, by omega, by omega, ?_⟩
    refine for_range (lo := 0) (n := xs.length) (fun i σ H2 => ∃ (st : S) (v3 : Option V), σ = [some (.ref h), some (.ref g), some (.bl st.fin), v3] ∧
      Same H H2 ∧ H2 g = some (.lst (thV st)) ∧ Good st ∧ st.kinds.length ≤ i ∧ st.len = i ∧ gone s0 0 os = gone st i (os.drop i))
      ⟨s0, none, rfl, Sg, upd_same, good0, Nat.le_refl _, rfl, rfl⟩
      (fun i σ H2 hi q => ?_) (fun σ H2 q => ?_)
    · obtain ⟨st, v3, rfl, S, hg, gd, kl, hlen, eg⟩ := q
      rw [Int.zero_add]
      have hx : xs[i]? = some xs[i] := List.getElem?_eq_getElem hi
      obtain ⟨o, ho, hv⟩ := hos.get hx
      have hil : i < os.length := by omega
      have hdrop : os.drop i = o :: os.drop (i + 1) := by
        rw [List.drop_eq_getElem_cons hil]
        congr 1
        exact (List.getElem?_eq_some_iff.mp ho).2
      rw [hdrop] at eg
      have hat : atI xs (i : Nat) = some xs[i] := atI_nat hx
      generalize xs[i] = x at hx hv hat
      have kF : mayO st o = false → ∀ H', Same H H' → Q (.int (i : Nat)) H' := fun e H' S' => by
        have : gone s0 0 os = some i := by
          rw [eg]
          cases o with
          | none => rfl
          | some t => simp only [mayO] at e; simp only [gone, e]; rfl
        rw [this] at k
        exact k H' S'
      refine ⟨_, rfl, ?_⟩
      refine ⟨_, rfl, ?_⟩
      cases hfin : st.fin with
      | true =>
        refine iteT ?_
        refine iteT ?_
        refine ⟨_, rfl, kF ?_ _ S⟩
        cases o with
        | none => rfl
        | some t => simp [mayO, may, hfin]
      | false =>
        refine iteF ?_
        have hl2 := S.seq hl
        refine ⟨_, rfl, _, rfl, h, xs, _, x, rfl, rfl, hl2, hat, _, rfl, _, rfl, x, g, i, st, o, rfl, hv.same S, hg, gd, by omega, fun H3 S3 => ⟨_, rfl, ?_⟩⟩
        have S13 := S.trans S3
        have em : fitO st i o = mayO st o := by
          cases o with
          | none => rfl
          | some t => simp only [fitO, mayO, may, hfin, hlen, Bool.not_false, Bool.true_and]
        rw [em]
        cases em2 : mayO st o with
        | false =>
          refine iteT ?_
          exact ⟨_, rfl, kF em2 _ S13⟩
        | true =>
          refine iteF ?_
          obtain ⟨t, rfl⟩ : ∃ t, o = some t := by
            cases o with
            | none => cases em2
            | some t => exact ⟨t, rfl⟩
          have hmay : may st t = true := em2
          have hko : kindOk st t = true := by simp only [may, Bool.and_eq_true] at hmay; exact hmay.2.2
          have hl3 := S13.seq hl
          have hv3 := (hv.1.same S13)
          refine ⟨_, rfl, _, rfl, h, xs, _, x, rfl, rfl, hl3, hat, _, rfl, x, g, t, st, rfl, hv3, S3 _ _ hg, gd, by omega, hko, fun H4 B4 hg4 => ?_⟩
          have S4 : Same H H4 := stays_new S13 ng B4
          have hl4 := S4.seq hl
          obtain ⟨a, rfl, ha⟩ := hv.1.same S4
          refine ⟨_, rfl, _, rfl, h, xs, _, .ref a, rfl, rfl, hl4, hat, a, _, _, .str t.head, rfl, rfl, ha, at0, by show 2 ≤ sizeLine; decide, fun e ne => ⟨e, _, rfl, .inr (SqT.of upd_same), rfl, rfl, ?_⟩⟩
          have S5 := S4.trans (Same.new (o := .tup [V.str "ended", V.str "anew"]) ne)
          have hg5 := Same.new (o := .tup [V.str "ended", V.str "anew"]) ne _ _ hg4
          refine ⟨go st t, some (.int (i : Nat)), ?_, S5, hg5, gd.go t, ?_, ?_, ?_⟩
          · show [some (V.ref h), some (V.ref g), some (V.bl (inV (.str t.head) [.str "ended", .str "anew"])), some (.int (i : Nat))] = _
            rw [last_in, (go_lf st t).2]
          · have := kinds_go st t
            omega
          · rw [(go_lf st t).1, hlen]
          · rw [eg]
            show (if may st t then gone (go st t) (i + 1) (os.drop (i + 1)) else some i) = _
            rw [hmay]
            rfl
    · obtain ⟨st, v3, rfl, S, hg, gd, kl, hlen, eg⟩ := q
      rw [el, List.drop_length] at eg
      rw [eg] at k
      exact k _ S
end
end K13

set_option Elab.async false
set_option maxRecDepth 100000
set_option maxHeartbeats 4000000
set_option linter.all false
namespace K13
open PySem PySem.Spec PyProof.Rows L2
theorem in_outer (t : Tok) : inV (.str t.head) [.str "begin", .str "answer", .str "rang", .str "signal"] = t.outer := by
  cases t <;> simp only [Tok.head, Tok.outer] <;> decide +kernel
structure TU (K : PySem.W.Frag) (H0 H : Hp) (p : Addr) (rs : List Addr) (acc : List (List Tok)) : Prop where
  sm : Same H0 H
  fr : Fresh H0 p rs
  ta : TurnsAt K H p rs acc
theorem TU.same {K : PySem.W.Frag} {H0 H H' : Hp} {p : Addr} {rs : List Addr} {acc : List (List Tok)} (h : TU K H0 H p rs acc) (e : Same H H') : TU K H0 H' p rs acc := ⟨h.sm.trans e, h.fr, h.ta.same e⟩
theorem TU.turn {K : PySem.W.Frag} {H0 H : Hp} {p r : Addr} {rs : List Addr} {acc : List (List Tok)} (h : TU K H0 H p rs acc) (n : H r = none) :
    TU K H0 (upd (upd H r (.lst [])) p (.lst (rs.map V.ref ++ [.ref r]))) p (rs ++ [r]) (acc ++ [[]]) := by
  have pr := ne_of_none h.ta.1 n
  refine ⟨fun b o hb => ?_, ⟨h.fr.1, fun x hx => ?_, fun y => ?_, List.nodup_append.mpr ⟨h.fr.2.2.2, by simp, fun x hx y hy z => ?_⟩⟩, turns_new h.ta h.fr.2.2.1 n⟩
  · rw [upd_ne (ne_of_none hb h.fr.1), upd_ne (ne_of_none (h.sm b o hb) n)]
    exact h.sm b o hb
  · rcases List.mem_append.mp hx with y | y
    · exact h.fr.2.1 x y
    · rw [List.mem_singleton.mp y]
      exact h.sm.free n
  · rcases List.mem_append.mp y with y | y
    · exact h.fr.2.2.1 y
    · exact pr (List.mem_singleton.mp y)
  · rw [List.mem_singleton.mp hy] at z
    obtain ⟨xs, w⟩ := h.ta.2.tracked hx
    exact ne_of_none w n z
theorem TU.tok {K : PySem.W.Frag} {H0 H : Hp} {p : Addr} {rs : List Addr} {acc0 : List (List Tok)} {l : List Tok} {v : V} {t : Tok} (h : TU K H0 H p rs (acc0 ++ [l])) (hv : TokAt K H v t) :
    ∃ rs0 r ys, rs = rs0 ++ [r] ∧ H r = some (.lst ys) ∧ ys.length = l.length ∧ TU K H0 (upd H r (.lst (ys ++ [v]))) p rs (acc0 ++ [l ++ [t]]) := by
  obtain ⟨rs0, r, ys, e, hr, _, hys⟩ := turns_last h.ta
  subst e
  exact ⟨rs0, r, ys, rfl, hr, hys.len, fun b o hb => by rw [upd_ne (ne_of_none hb (h.fr.2.1 r (by simp)))]; exact h.sm b o hb, h.fr, turns_add h.ta h.fr.2.2.1 h.fr.2.2.2 hr hv⟩
def spTurns (K : PySem.W.Frag) : Sp := fun vs H Q _ => ∃ (h : Addr) (xs : List V) (t : Tok) (r : List Tok), vs = [.ref h] ∧ SqL K H h xs ∧ All2 (TokAt K H) xs (t :: r) ∧ t.outer = true ∧ (t :: r).length ≤ 400 ∧
  ∀ (H' : Hp) (p : Addr) (rs : List Addr), Same H H' → Fresh H p rs → TurnsAt K H' p rs (cutAll (t :: r)) → Q (.ref p) H'
section
variable {P : Program} {w : World} {K : PySem.W.Frag} {mg : Str → Option Value} {base : Heap}
theorem ok_turns {f : Addr} {fd : FuncData} (F : FnP K "_law_turns" "_law_turns" s__law_turns f fd) (T : Tx w K mg) : FnOk P w K mg base CX0 1 f fd p__law_turns (spTurns K) := by
  refine F.ok sc__law_turns (fun vs H Q E h => ?_) (fun cdv A outer s H vs Q E hr h => ?_)
  · obtain ⟨h, xs, t, r, rfl, _⟩ := h
    rfl
  · obtain ⟨h, xs, t0, r0, rfl, hl, hts, o0, few, k⟩ := h
    have e0 : cutAll (t0 :: r0) = (t0 :: r0).foldl cutOn [] := rfl
    rw [e0] at k
    have ne : ∀ i, 0 < i → (((t0 :: r0).take i).foldl cutOn []) ≠ [] := fun i hi => by
      refine fold_ne _ fun z => ?_
      cases i with
      | zero => omega
      | succ i => simp at z
    have hz : ∀ t, (t0 :: r0)[0]? = some t → t.outer = true := fun t e => by cases Option.some.inj e; exact o0
    generalize t0 :: r0 = ts at hts few k ne hz
    have el := hts.len
    refine ⟨_, PSs.nox (pss_cons (ps_set (i := 1) sc__law_turns.nd rfl (.inl rfl) (pe_lst pa_nil))
      (pss_cons (ps_for PassesOwn.never rfl (pi_list (pv 0)) (pg_name (i := 2) sc__law_turns.nd rfl (.inl rfl)) (C8.pss_cut (ps_if (pt_cmpR op_in_seq (pe_ix ix_tup (pv 2) pe_int (fun _ _ => rfl)) (pe_tup (pa_cons pe_str (pa_cons pe_str (pa_cons pe_str (pa_cons pe_str pa_nil))))) (by rfl)) (pss_one (ps_expr (pe_bm PySem.F.plainAttrs_list PySem.F.slot_list_append PySem.F.type_list_append mt_append (pv 1) (pa_cons (pe_lst pa_nil) pa_nil)))) pss_nil)
      (pss_one (ps_expr (pe_bm PySem.F.plainAttrs_list PySem.F.slot_list_append PySem.F.type_list_append mt_append (pe_ix ix_list (pv 1) (pe_op op_sub (pe_callB call_len_seq (by rfl) T.b_len PySem.boot_len (pa_cons (pv 1) pa_nil)) pe_int) (fun _ _ => rfl)) (pa_cons (pv 2) pa_nil))))))
      (pss_one (ps_ret (pv 1))))), ?_⟩
    refine ⟨by show 0 ≤ sizeLine; decide, fun p np => ?_⟩
    have h0 : TU K H (upd H p (.lst [])) p [] [] := ⟨Same.new np, ⟨np, by simp, by simp, List.nodup_nil⟩, upd_same, .nil⟩
    generalize upd H p (.lst []) = H1 at h0
    refine ⟨_, rfl, h, rfl, ⟨xs, h0.sm.seq hl⟩, ?_⟩
    refine for_list (K := K) (a := h) (xs := xs) (fun i σ H2 => ∃ (rs : List Addr) (v2 : Option V), σ = [some (.ref h), some (.ref p), v2] ∧ TU K H H2 p rs ((ts.take i).foldl cutOn [])) ⟨[], none, rfl, h0⟩ (fun i σ H2 _ y => ?_) (fun i x σ H2 hi y => ?_) (fun σ H2 y => ?_)
    · obtain ⟨_, _, _, t⟩ := y
      exact t.sm.seq hl
    · obtain ⟨rs, v2, rfl, h2⟩ := y
      obtain ⟨t, ht, hv0⟩ := hts.get hi
      have hil : i < ts.length := (List.getElem?_eq_some_iff.mp ht).1
      have etk := take_more ht
      have bl := (fold_few (ts.take i)).1
      have bn := (fold_few (ts.take i)).2
      have ltk : (ts.take i).length ≤ 400 := by rw [List.length_take]; omega
      have hnb : t.outer = false → (ts.take i).foldl cutOn [] ≠ [] := fun o => by
        refine ne i (Nat.pos_of_ne_zero fun z => ?_)
        subst z
        rw [hz t ht] at o
        cases o
      rw [etk, List.foldl_append]
      show _
      generalize (ts.take i).foldl cutOn [] = acc at h2 bl bn hnb
      obtain ⟨a, rfl, ha0⟩ := hv0
      have ha2 := sameT h2.sm ha0
      refine ⟨fun σ' H3 => ∃ (rs' : List Addr) (acc0 : List (List Tok)) (l : List Tok), σ' = [some (.ref h), some (.ref p), some (.ref a)] ∧
        TU K H H3 p rs' (acc0 ++ [l]) ∧ acc0 ++ [l ++ [t]] = cutOn acc t ∧ l.length ≤ 400 ∧ (acc0 ++ [l]).length ≤ 401, ?_, ?_⟩
      · refine ⟨_, rfl, a, _, _, .str t.head, rfl, rfl, ha2, at0, by show 4 ≤ sizeLine; decide, fun e ne => ⟨e, _, rfl, .inr (SqT.of upd_same), rfl, rfl, _, rfl, ?_⟩⟩
        have Se := Same.new (o := .tup [V.str "begin", V.str "answer", V.str "rang", V.str "signal"]) ne
        have h3 := h2.same Se
        generalize upd H2 e (.tup [V.str "begin", V.str "answer", V.str "rang", V.str "signal"]) = H3 at h3
        cases o : t.outer with
        | true =>
          refine iteT' (by show inV _ _ = true; rw [in_outer, o]) ?_
          have lrs : rs.length = acc.length := h3.ta.2.len
          refine ⟨_, rfl, Or.inl ⟨rfl, _, SqL.of h3.ta.1⟩, by show 0 ≤ sizeLine; decide, fun r nr => ?_⟩
          have pr := ne_of_none h3.ta.1 nr
          refine ⟨p, _, .ref r, rfl, rfl, by rw [upd_ne pr]; exact h3.ta.1, small1000 (by rw [List.length_map]; omega), ?_⟩
          have h4 := h3.turn nr
          refine ⟨rs ++ [r], acc, [], rfl, h4, ?_, by decide, by simp; omega⟩
          simp [cutOn, o]
        | false =>
          refine iteF' (by show inV _ _ = false; rw [in_outer, o]) ?_
          obtain ⟨acc0, l, ea⟩ : ∃ acc0 l, acc = acc0 ++ [l] := by
            rcases List.eq_nil_or_concat acc with e | ⟨l, a, e⟩
            · exact absurd e (hnb o)
            · exact ⟨l, a, by rw [e, List.concat_eq_append]⟩
          subst ea
          refine ⟨rs, acc0, l, rfl, h3, ?_, ?_, by omega⟩
          · simp [cutOn, o]
          · have := bn l (by simp)
            omega
      · rintro σ' H3 ⟨rs', acc0, l, rfl, h3, ecut, ll, lacc⟩
        have htk : TokAt K H3 (.ref a) t := ⟨a, rfl, sameT h3.sm ha0⟩
        obtain ⟨rs0, r, ys, er, hr, hyl, h6⟩ := h3.tok htk
        have hpl := h3.ta.1
        subst er
        have emap : (rs0 ++ [r]).map V.ref = rs0.map V.ref ++ [V.ref r] := by simp
        rw [emap] at hpl
        have eix : (((rs0.map V.ref ++ [V.ref r]).length : Nat) : Int) - 1 = ((rs0.length : Nat) : Int) := by simp
        refine ⟨_, rfl, _, rfl, p, _, rfl, .inl (SqL.of hpl), _, _, rfl, rfl, p, _, _, .ref r, rfl, rfl, SqL.of hpl, (by rw [eix]; exact atI_nat (by simp)), Or.inl ⟨rfl, _, SqL.of hr⟩, _, rfl, r, ys, _, rfl, rfl, hr, small1000 (by omega), ?_⟩
        rw [ecut] at h6
        exact ⟨_, _, rfl, h6⟩
    · obtain ⟨rs, v2, rfl, h2⟩ := y
      refine ⟨_, rfl, ?_⟩
      rw [el, List.take_length] at h2
      exact k H2 p rs h2.sm h2.fr h2.ta
end
end K13

set_option Elab.async false
set_option maxRecDepth 100000
set_option maxHeartbeats 4000000
set_option linter.all false
/-! a word of our own: isinstance of a caught error that holds fields -/
namespace L2
open PySem PySem.Spec PyProof.Rows
def rIsX (K : PySem.W.Frag) (cls : Value) (d : Option Addr) (a : Addr) : List V → Hp → VK → Prop := fun xs H Q => ∃ (D dd : Addr) (c : V) (cv : Value) (b : Bool) (fs : List (Str × V)),
  cls = .ref D ∧ d = some dd ∧ ExcC K D ∧ H dd = some (.xd fs) ∧ xs = [.ref a, c] ∧ (∀ u, RelV c u → u = cv) ∧ PySem.W.kitOne K (.ref D) cv = some b ∧ Q (.bl b) H
theorem call_isX {X : Cx} {a : Addr} {oe : Obj} {cls : Value} {d : Option Addr} {pn : List (Addr × Obj)} (hz : Zc cls d oe) (hf : ∃ vs, oe.data = .fields vs) : CallR (X.suite a ((a, oe) :: pn)) (.builtin "isinstance") (rIsX X.K cls d a) := by
  intro pins s σ H xs us Q I r h
  obtain ⟨D, dd, c, cv, b, fs, rfl, rfl, C, hd, rfl, hcv, e, q⟩ := h
  cases r with
  | cons rx rr =>
    cases rr with
    | cons rt rr =>
      cases rr
      cases rx
      have ec := hcv _ rt
      subst ec
      obtain ⟨hget, _⟩ := I.pin (a, oe) (List.mem_append.mpr (.inl List.mem_cons_self))
      obtain ⟨vs, hv⟩ := hf
      have hx : ObjOk X.prog X.w H s.heap dd (.xd fs) := I.hok dd _ hd
      obtain ⟨mA, hns, _⟩ := hx
      obtain ⟨od, ho, _⟩ := lookIn_ns hns
      have J : PySem.W.InstAt s.heap a oe D (some od) := ⟨hget, hz.1, by unfold PySem.W.notCls; rw [hv] <;> rfl, by rw [hz.2]; exact ho⟩
      have hcl : (PySem.W.clsIn X.K D).isSome = true := by
        have := C.hd
        unfold PySem.W.hasDictIn at this
        revert this
        cases PySem.W.clsIn X.K D <;> simp
      exact PySem.W.kia_one (PySem.W.kitx_exc hcl C.hg C.hk C.hs C.ha C.hn C.ht C.hm) I.kIn J e (fun z => nomatch z) fun tk => ⟨.bl b, H, I.kept (t' := tk) fun _ _ z => z, rfl, q⟩
end L2

set_option Elab.async false
set_option maxRecDepth 100000
set_option maxHeartbeats 4000000
set_option linter.all false
namespace K13
open PySem PySem.Spec PyProof.Rows L2
abbrev cRE (K : PySem.W.Frag) : Addr := He.ga K "RunError"
abbrev cIE (K : PySem.W.Frag) : Addr := He.ga K "InputError"
def spTold (K : PySem.W.Frag) : Sp := fun vs H Q _ => ∃ (n : Nat) (v : V) (o : Option (List (Option Tok))), vs = [.int (n : Nat), v] ∧ HistV K H v o ∧ (osL o).length ≤ 450 ∧
  ((∃ i, flaw o = some i ∧ n < 5 ∧ ∀ (a : Addr) (H' : Hp), Same H H' → H a = none → SqT K H' a [.str "refused", .int i] → Q (.ref a) H') ∨
   (flaw o = none ∧ n = 0 ∧ ∀ (a : Addr) (H' : Hp), Same H H' → H a = none → SqT K H' a [.str "told", .int (cutAll ((osL o).filterMap id)).length] → Q (.ref a) H') ∨
   (flaw o = none ∧ n = 1 ∧ ∀ (a p : Addr) (rs : List Addr) (H' : Hp), Same H H' → H a = none → Fresh H p rs → TurnsAt K H' p rs (cutAll ((osL o).filterMap id)) → SqT K H' a [.str "told", .ref p] → Q (.ref a) H'))
structure ErrF (K : PySem.W.Frag) (mg : Str → Option Value) : Prop where
  xf : XfC K (cIH K)
  xc : ExcC K (cIH K)
  gIH : mg "InvalidHistory" = some (.ref (cIH K))
  gIA : mg "InvalidArgument" = some (.ref (cIA K))
  gRE : mg "RunError" = some (.ref (cRE K))
  gIE : mg "InputError" = some (.ref (cIE K))
  hno : PySem.W.findIn K (.ref (cIH K)) "at" = some none
  te : PySem.W.exmOne K (.ref (cIH K)) (.ref (cIH K)) = some true
  kIA : PySem.W.kitOne K (.ref (cIH K)) (.ref (cIA K)) = some false
  kRE : PySem.W.kitOne K (.ref (cIH K)) (.ref (cRE K)) = some false
  kIE : PySem.W.kitOne K (.ref (cIH K)) (.ref (cIE K)) = some true
section
variable {P : Program} {w : World} {K : PySem.W.Frag} {mg : Str → Option Value} {base : Heap}
theorem ok_told {f : Addr} {fd : FuncData} (F : FnP K "_law_told" "_law_told" s__law_told f fd) (T : Tx w K mg) (EF : ErrF K mg) {gt : Addr} (hgt : ∀ H, SqT K H gt gos)
    (K_Program : MkA P w K mg base CX0 5 "Program" (He.ga K "Program") [.non, .non, .ref gt] p_Program___init__ (spProg K))
    (G_check : Def P w K mg base (L2.CX P w) 6 "check" p_check (spCheckG K)) (G_cut : Def P w K mg base (L2.CX P w) 5 "cut" p_cut (spCutG K)) (G_read : Def P w K mg base (L2.CX P w) 7 "read" p_read (spRaise K))
    (G_good_turns : Def P w K mg base (L2.CX P w) 7 "good_turns" p_good_turns (spRaise K)) (G_resume : Def P w K mg base (L2.CX P w) 7 "resume" p_resume (spRaise K)) :
    FnOk P w K mg base CX0 8 f fd p__law_told (spTold K) := by
  refine F.ok sc__law_told (fun vs H Q E h => ?_) (fun cdv A outer s H vs Q E hr h => ?_)
  · obtain ⟨n, v, o, rfl, _⟩ := h
    rfl
  · obtain ⟨n, v, o, rfl, hv, few, k⟩ := h
    refine ⟨_, pss_cons (ps_set (i := 2) sc__law_told.nd rfl (.inl rfl) (pe_mkA K_Program (hr.mono (by decide)) (by rfl) pass0 (pa_cons (pe_lst pa_nil) pa_nil))) (pss_one (ps_try_as (i := 3) (tb := _) (ts := _) (Wout := fun _ _ _ _ => False) rfl rfl sc__law_told.nd rfl rfl ⟨rfl, by decide, .inl EF.gIH⟩ takes0
      (fun W pn xe tk _ => pss_cons (ps_if (pt_cmpR op_eq (pv 0) pe_int (nomark _)) (pss_one (ps_ret (pe_tup (pa_cons pe_str (pa_cons (by exact (pe_fnS G_check (hr.mono (by decide)) (by rfl) tk (pa_cons (pv 1) pa_nil))) pa_nil))))) pss_nil)
        (pss_cons (ps_if (pt_cmpR op_eq (pv 0) pe_int (nomark _)) (pss_one (ps_ret (pe_tup (pa_cons pe_str (pa_cons (by exact (pe_fnS G_cut (hr.mono (by decide)) (by rfl) tk (pa_cons (pv 1) pa_nil))) pa_nil))))) pss_nil)
        (pss_cons (ps_if (pt_cmpR op_eq (pv 0) pe_int (nomark _)) (pss_one (ps_ret (pe_tup (pa_cons pe_str (pa_cons (pe_ix (show IxR _ (rIxT K) from ix_tup) (by exact (pe_fnS G_read (hr.mono (by decide)) (by rfl) tk (pa_cons (pv 2) (pa_cons (pv 1) pa_nil)))) pe_int (fun _ _ => rfl)) pa_nil))))) pss_nil)
        (pss_cons (ps_if (pt_cmpR op_eq (pv 0) pe_int (nomark _)) (pss_one (ps_ret (pe_tup (pa_cons pe_str (pa_cons (pe_cmpR op_ge (by exact (pe_fnS G_good_turns (hr.mono (by decide)) (by rfl) tk (pa_cons (pv 2) (pa_cons (pv 1) pa_nil)))) pe_int (nomark _)) pa_nil))))) pss_nil)
        (pss_one (ps_ret (pe_tup (pa_cons pe_str (pa_cons (show PE _ _ (tFld K (tCallS (spRaise K) (WE W) (tCons (tVar 2) (tCons (tVar 1) tNil))) "over") from pe_fld (pe_fnS G_resume (hr.mono (by decide)) (by rfl) tk (pa_cons (pv 2) (pa_cons (pv 1) pa_nil))) rfl) pa_nil)))))))))
      (fun a oe cls d pn hz hf => pss_cons (ps_if (PW.pt (pw_or (pt_val (pe_callB (call_isX hz hf) (by rfl) T.b_isinstance (by decide +kernel) (pa_cons (pv 3) (pa_cons (pe_ref (by rfl) EF.gIA) pa_nil)))) (pw_or (pt_val (pe_callB (call_isX hz hf) (by rfl) T.b_isinstance (by decide +kernel) (pa_cons (pv 3) (pa_cons (pe_ref (by rfl) EF.gRE) pa_nil)))) (pw_or1 (pt_not (pt_val (pe_callB (call_isX hz hf) (by rfl) T.b_isinstance (by decide +kernel) (pa_cons (pv 3) (pa_cons (pe_ref (by rfl) EF.gIE) pa_nil))))))))) (pss_one (ps_ret (pe_tup (pa_cons pe_str (pa_cons pe_str pa_nil))))) pss_nil)
        (pss_one (ps_ret (pe_tup (pa_cons pe_str (pa_cons (by exact (pe_xf EF.xf EF.hno hz hf (pv 3))) pa_nil)))))))), ?_⟩
    refine ⟨by show 0 ≤ sizeLine; decide, fun r0 nr0 => ?_⟩
    have Sr := Same.new (o := .lst []) nr0
    have hr0 : upd H r0 (.lst []) r0 = some (.lst []) := upd_same
    generalize upd H r0 (.lst []) = G at Sr hr0
    intro x dx nx ndx nxd
    have S1 : ∀ b u, H b = some u → b ≠ x := fun b u hb z => by rw [← z, Sr _ _ hb] at nx; cases nx
    have rx : r0 ≠ x := fun z => by rw [← z, hr0] at nx; cases nx
    have rdx : r0 ≠ dx := fun z => by rw [← z, hr0] at ndx; cases ndx
    refine ⟨x, dx, r0, gt, rfl, upd_same, by rw [upd_ne rx, upd_ne rdx]; exact hr0, hgt _, fun H2 fs sv hx2 => ⟨rfl, ?_⟩⟩
    have S2 : Same H H2 := fun b u hb => sv b u (by
      rw [upd_ne (S1 b u hb)]
      exact Same.new ndx _ _ (Sr _ _ hb)) (S1 b u hb)
    have hv2 := hv.same S2
    rcases k with ⟨i, hf, hn, k⟩ | ⟨hf, rfl, k⟩ | ⟨hf, rfl, k⟩
    · match n, hn with
      | 0, _ =>
        refine ⟨_, rfl, rfl, _, rfl, iteT' (by decide +kernel) ?_⟩
        refine ⟨_, rfl, v, o, rfl, hv2, few, fun z => (by rw [hf] at z; cases z), fun j hj d0 H3 S3 nd hd => ?_⟩
        rw [hf] at hj
        cases hj
        refine ⟨true, EF.te, fun _ a0 ha0 => ?_, fun q => Bool.noConfusion q⟩
        refine ⟨_, rfl, cIH K, d0, .ref (cIA K), .ref (cIA K), false, _, rfl, rfl, EF.xc, hd, rfl, fun u hu => hu, EF.kIA, _, rfl, iteF ?_⟩
        refine ⟨_, rfl, cIH K, d0, .ref (cRE K), .ref (cRE K), false, _, rfl, rfl, EF.xc, hd, rfl, fun u hu => hu, EF.kRE, _, rfl, iteF ?_⟩
        refine ⟨_, rfl, cIH K, d0, .ref (cIE K), .ref (cIE K), true, _, rfl, rfl, EF.xc, hd, rfl, fun u hu => hu, EF.kIE, _, rfl, iteF ?_⟩
        refine ⟨_, rfl, rfl, rfl, d0, _, .int i, rfl, hd, rfl, by show 2 ≤ sizeLine; decide, fun a na => ?_⟩
        exact k a _ ((S2.trans S3).trans (Same.new na)) ((S2.trans S3).free na) (SqT.of upd_same)
      | 1, _ =>
        refine ⟨_, rfl, rfl, _, rfl, iteF' (by decide +kernel) ?_⟩
        refine ⟨_, rfl, rfl, _, rfl, iteT' (by decide +kernel) ?_⟩
        refine ⟨_, rfl, v, o, rfl, hv2, few, fun z => (by rw [hf] at z; cases z), fun j hj d0 H3 S3 nd hd => ?_⟩
        rw [hf] at hj
        cases hj
        refine ⟨true, EF.te, fun _ a0 ha0 => ?_, fun q => Bool.noConfusion q⟩
        refine ⟨_, rfl, cIH K, d0, .ref (cIA K), .ref (cIA K), false, _, rfl, rfl, EF.xc, hd, rfl, fun u hu => hu, EF.kIA, _, rfl, iteF ?_⟩
        refine ⟨_, rfl, cIH K, d0, .ref (cRE K), .ref (cRE K), false, _, rfl, rfl, EF.xc, hd, rfl, fun u hu => hu, EF.kRE, _, rfl, iteF ?_⟩
        refine ⟨_, rfl, cIH K, d0, .ref (cIE K), .ref (cIE K), true, _, rfl, rfl, EF.xc, hd, rfl, fun u hu => hu, EF.kIE, _, rfl, iteF ?_⟩
        refine ⟨_, rfl, rfl, rfl, d0, _, .int i, rfl, hd, rfl, by show 2 ≤ sizeLine; decide, fun a na => ?_⟩
        exact k a _ ((S2.trans S3).trans (Same.new na)) ((S2.trans S3).free na) (SqT.of upd_same)
      | 2, _ =>
        refine ⟨_, rfl, rfl, _, rfl, iteF' (by decide +kernel) ?_⟩
        refine ⟨_, rfl, rfl, _, rfl, iteF' (by decide +kernel) ?_⟩
        refine ⟨_, rfl, rfl, _, rfl, iteT' (by decide +kernel) ?_⟩
        refine ⟨_, rfl, _, rfl, .inr ⟨x, dx, fs, v, o, i, rfl, hx2, hv2, few, hf, fun d0 H3 S3 nd hd => ?_⟩⟩
        refine ⟨true, EF.te, fun _ a0 ha0 => ?_, fun q => Bool.noConfusion q⟩
        refine ⟨_, rfl, cIH K, d0, .ref (cIA K), .ref (cIA K), false, _, rfl, rfl, EF.xc, hd, rfl, fun u hu => hu, EF.kIA, _, rfl, iteF ?_⟩
        refine ⟨_, rfl, cIH K, d0, .ref (cRE K), .ref (cRE K), false, _, rfl, rfl, EF.xc, hd, rfl, fun u hu => hu, EF.kRE, _, rfl, iteF ?_⟩
        refine ⟨_, rfl, cIH K, d0, .ref (cIE K), .ref (cIE K), true, _, rfl, rfl, EF.xc, hd, rfl, fun u hu => hu, EF.kIE, _, rfl, iteF ?_⟩
        refine ⟨_, rfl, rfl, rfl, d0, _, .int i, rfl, hd, rfl, by show 2 ≤ sizeLine; decide, fun a na => ?_⟩
        exact k a _ ((S2.trans S3).trans (Same.new na)) ((S2.trans S3).free na) (SqT.of upd_same)
      | 3, _ =>
        refine ⟨_, rfl, rfl, _, rfl, iteF' (by decide +kernel) ?_⟩
        refine ⟨_, rfl, rfl, _, rfl, iteF' (by decide +kernel) ?_⟩
        refine ⟨_, rfl, rfl, _, rfl, iteF' (by decide +kernel) ?_⟩
        refine ⟨_, rfl, rfl, _, rfl, iteT' (by decide +kernel) ?_⟩
        refine ⟨_, rfl, _, rfl, .inr ⟨x, dx, fs, v, o, i, rfl, hx2, hv2, few, hf, fun d0 H3 S3 nd hd => ?_⟩⟩
        refine ⟨true, EF.te, fun _ a0 ha0 => ?_, fun q => Bool.noConfusion q⟩
        refine ⟨_, rfl, cIH K, d0, .ref (cIA K), .ref (cIA K), false, _, rfl, rfl, EF.xc, hd, rfl, fun u hu => hu, EF.kIA, _, rfl, iteF ?_⟩
        refine ⟨_, rfl, cIH K, d0, .ref (cRE K), .ref (cRE K), false, _, rfl, rfl, EF.xc, hd, rfl, fun u hu => hu, EF.kRE, _, rfl, iteF ?_⟩
        refine ⟨_, rfl, cIH K, d0, .ref (cIE K), .ref (cIE K), true, _, rfl, rfl, EF.xc, hd, rfl, fun u hu => hu, EF.kIE, _, rfl, iteF ?_⟩
        refine ⟨_, rfl, rfl, rfl, d0, _, .int i, rfl, hd, rfl, by show 2 ≤ sizeLine; decide, fun a na => ?_⟩
        exact k a _ ((S2.trans S3).trans (Same.new na)) ((S2.trans S3).free na) (SqT.of upd_same)
      | 4, _ =>
        refine ⟨_, rfl, rfl, _, rfl, iteF' (by decide +kernel) ?_⟩
        refine ⟨_, rfl, rfl, _, rfl, iteF' (by decide +kernel) ?_⟩
        refine ⟨_, rfl, rfl, _, rfl, iteF' (by decide +kernel) ?_⟩
        refine ⟨_, rfl, rfl, _, rfl, iteF' (by decide +kernel) ?_⟩
        refine ⟨_, rfl, _, rfl, .inr ⟨x, dx, fs, v, o, i, rfl, hx2, hv2, few, hf, fun d0 H3 S3 nd hd => ?_⟩⟩
        refine ⟨true, EF.te, fun _ a0 ha0 => ?_, fun q => Bool.noConfusion q⟩
        refine ⟨_, rfl, cIH K, d0, .ref (cIA K), .ref (cIA K), false, _, rfl, rfl, EF.xc, hd, rfl, fun u hu => hu, EF.kIA, _, rfl, iteF ?_⟩
        refine ⟨_, rfl, cIH K, d0, .ref (cRE K), .ref (cRE K), false, _, rfl, rfl, EF.xc, hd, rfl, fun u hu => hu, EF.kRE, _, rfl, iteF ?_⟩
        refine ⟨_, rfl, cIH K, d0, .ref (cIE K), .ref (cIE K), true, _, rfl, rfl, EF.xc, hd, rfl, fun u hu => hu, EF.kIE, _, rfl, iteF ?_⟩
        refine ⟨_, rfl, rfl, rfl, d0, _, .int i, rfl, hd, rfl, by show 2 ≤ sizeLine; decide, fun a na => ?_⟩
        exact k a _ ((S2.trans S3).trans (Same.new na)) ((S2.trans S3).free na) (SqT.of upd_same)
    · refine ⟨_, rfl, rfl, _, rfl, iteT' (by decide +kernel) ?_⟩
      refine ⟨_, rfl, v, o, rfl, hv2, few, fun _ H3 S3 => ?_, fun j hj => (by rw [hf] at hj; cases hj)⟩
      refine ⟨by show 2 ≤ sizeLine; decide, fun a na => ?_⟩
      exact k a _ ((S2.trans S3).trans (Same.new na)) ((S2.trans S3).free na) (SqT.of upd_same)
    · refine ⟨_, rfl, rfl, _, rfl, iteF' (by decide +kernel) ?_⟩
      refine ⟨_, rfl, rfl, _, rfl, iteT' (by decide +kernel) ?_⟩
      refine ⟨_, rfl, v, o, rfl, hv2, few, fun _ H3 p rs S3 fr hp => ?_, fun j hj => (by rw [hf] at hj; cases hj)⟩
      refine ⟨by show 2 ≤ sizeLine; decide, fun a na => ?_⟩
      have Sa := Same.new (o := .tup [V.str "told", V.ref p]) na
      exact k a p rs _ ((S2.trans S3).trans Sa) ((S2.trans S3).free na) ⟨S2.free fr.1, fun r hr => S2.free (fr.2.1 r hr), fr.2.2⟩ (hp.same Sa) (SqT.of upd_same)
end
end K13

set_option Elab.async false
set_option maxRecDepth 100000
set_option maxHeartbeats 4000000
set_option linter.all false
namespace K13
open PySem PySem.Spec PyProof.Rows L2
def spNoProg (K : PySem.W.Frag) : Sp := fun vs H Q _ => ∃ (u : V), vs = [u] ∧ ∀ H', Same H H' → Q (.bl true) H'
structure ErrA (K : PySem.W.Frag) (mg : Str → Option Value) : Prop where
  xf : XfC K (cIA K)
  gIA : mg "InvalidArgument" = some (.ref (cIA K))
  hno : PySem.W.findIn K (.ref (cIA K)) "part" = some none
  te : PySem.W.exmOne K (.ref (cIA K)) (.ref (cIA K)) = some true
section
variable {P : Program} {w : World} {K : PySem.W.Frag} {mg : Str → Option Value} {base : Heap}
theorem ok_noprog {f : Addr} {fd : FuncData} (F : FnP K "_law_no_program" "_law_no_program" s__law_no_program f fd) (T : Tx w K mg) (EA : ErrA K mg)
    (G_read : Def P w K mg base (L2.CX P w) 7 "read" p_read (spRaise K))
    (G_good_turns : Def P w K mg base (L2.CX P w) 7 "good_turns" p_good_turns (spRaise K)) (G_resume : Def P w K mg base (L2.CX P w) 7 "resume" p_resume (spRaise K)) :
    FnOk P w K mg base CX0 8 f fd p__law_no_program (spNoProg K) := by
  refine F.ok sc__law_no_program (fun vs H Q E h => ?_) (fun cdv A outer s H vs Q E hr h => ?_)
  · obtain ⟨u, rfl, _⟩ := h
    rfl
  · obtain ⟨u, rfl, k⟩ := h
    have hu := hu_of hr
    refine ⟨_, (pss_cons (ps_for (passes_of rfl) rfl (pi_tup (pe_tup (pa_cons pe_non (pa_cons (pe_lst pa_nil) (pa_cons pe_str (pa_cons pe_int (pa_cons pe_dnewK (pa_cons (pe_tup (pa_cons pe_str pa_nil)) pa_nil)))))))) (pg_name (i := 1) sc__law_no_program.nd rfl (.inl rfl)) (pss_cons (ps_set (i := 2) sc__law_no_program.nd rfl (.inl rfl) (pe_lst pa_nil))
      (pss_cons (ps_for (passes_of rfl) rfl (pi_range1 (by rfl) T.b_range (pa_cons pe_int pa_nil)) (pg_name (i := 3) sc__law_no_program.nd rfl (.inl rfl)) (pss_cons (ps_set (i := 4) sc__law_no_program.nd rfl (.inl rfl) pe_str)
      (pss_cons (ps_try_as (i := 5) (tb := _) (ts := _) (Wout := fun _ _ _ _ => False) rfl rfl sc__law_no_program.nd rfl rfl ⟨rfl, by decide, .inl EA.gIA⟩ takes0 (fun W pn xe tk _ => pss_one (ps_if (pt_cmpR op_eq (pv 3) pe_int (nomark _)) (pss_one (ps_expr (by exact (pe_fnS G_read (hr.mono (by decide)) (by rfl) tk (pa_cons (pv 1) (pa_cons (pv 0) pa_nil)))))) (pss_one (ps_if (pt_cmpR op_eq (pv 3) pe_int (nomark _)) (pss_one (ps_expr (by exact (pe_fnS G_good_turns (hr.mono (by decide)) (by rfl) tk (pa_cons (pv 1) (pa_cons (pv 0) pa_nil)))))) (pss_one (ps_expr (by exact (pe_fnS G_resume (hr.mono (by decide)) (by rfl) tk (pa_cons (pv 1) (pa_cons (pv 0) pa_nil)))))))))) (fun a oe cls d pn hz hf => pss_one (ps_set (i := 4) sc__law_no_program.nd rfl (.inl rfl) (by exact (pe_xf EA.xf EA.hno hz hf (pv 5))))))
      (pss_one (ps_expr (pe_bm PySem.F.plainAttrs_list PySem.F.slot_list_append PySem.F.type_list_append mt_append (pv 2) (pa_cons (pv 4) pa_nil)))))))
      (pss_one (ps_if (pt_cmpR (op_neD hr.units) (pv 2) (pe_lst (pa_cons pe_str (pa_cons pe_str (pa_cons pe_str pa_nil)))) (nomark _)) (pss_one (ps_ret pe_bl)) pss_nil)))))
      (pss_one (ps_ret pe_bl))), ?_⟩
    refine ⟨by show 0 ≤ sizeLine; decide, fun e1 n1 => ?_⟩
    have S1 := Same.new (o := .lst []) n1
    have p1 : NoProg K (upd H e1 (.lst [])) (.ref e1) := .lst (SqL.of upd_same)
    generalize upd H e1 (.lst []) = G1 at S1 p1 ⊢
    refine fun e2 n2 => ?_
    have S2 := Same.new (o := .dK []) n2
    have p2 : NoProg K (upd G1 e2 (.dK [])) (.ref e2) := .dic upd_same
    have p1 := p1.same S2
    have S2 := S1.trans S2
    generalize upd G1 e2 (.dK []) = G2 at S2 p1 p2 ⊢
    refine ⟨by show 1 ≤ sizeLine; decide, fun e3 n3 => ?_⟩
    have S3 := Same.new (o := .tup [V.str "program"]) n3
    have p3 : NoProg K (upd G2 e3 (.tup [V.str "program"])) (.ref e3) := .tup (SqT.of upd_same)
    have p1 := p1.same S3
    have p2 := p2.same S3
    have S3 := S2.trans S3
    generalize upd G2 e3 (.tup [V.str "program"]) = G3 at S3 p1 p2 p3 ⊢
    refine ⟨by show 6 ≤ sizeLine; decide, fun B nB => ?_⟩
    have S4 := Same.new (o := .tup [V.non, V.ref e1, V.str "program", V.int 5, V.ref e2, V.ref e3]) nB
    have hB : upd G3 B (.tup [V.non, V.ref e1, V.str "program", V.int 5, V.ref e2, V.ref e3]) B = some (.tup [V.non, V.ref e1, V.str "program", V.int 5, V.ref e2, V.ref e3]) := upd_same
    have all : ∀ y ∈ [V.non, V.ref e1, V.str "program", V.int 5, V.ref e2, V.ref e3], NoProg K (upd G3 B (.tup [V.non, V.ref e1, V.str "program", V.int 5, V.ref e2, V.ref e3])) y := by
      intro y hy
      simp only [List.mem_cons, List.not_mem_nil, or_false] at hy
      rcases hy with rfl | rfl | rfl | rfl | rfl | rfl
      · exact .non
      · exact p1.same S4
      · exact .str _
      · exact .int _
      · exact p2.same S4
      · exact p3.same S4
    have S4 := S3.trans S4
    generalize upd G3 B (.tup [V.non, V.ref e1, V.str "program", V.int 5, V.ref e2, V.ref e3]) = G4 at S4 hB all ⊢
    refine ⟨B, rfl, ⟨_, SqT.of hB⟩, ?_⟩
    generalize [V.non, V.ref e1, V.str "program", V.int 5, V.ref e2, V.ref e3] = ys at hB all
    clear p1 p2 p3 S1 S2 S3
    refine for_tup (K := K) (a := B) (xs := ys) (fun i σ H' => ∃ (v1 v2 v3 v4 : Option V), σ = [some u, v1, v2, v3, v4, none] ∧ Same G4 H') ⟨none, none, none, none, rfl, Same.refl _⟩ (fun i σ H' _ y => ?_) (fun i x σ H5 hi y => ?_) (fun σ H' y => ?_)
    · obtain ⟨_, _, _, _, _, S⟩ := y
      exact sameT S (SqT.of hB)
    · obtain ⟨v1, v2, v3, v4, rfl, S⟩ := y
      have hx : NoProg K H5 x := (all x (List.mem_of_getElem? hi)).same S
      refine ⟨by show 0 ≤ sizeLine; decide, fun D nD => ?_⟩
      have SD := Same.new (o := .lst []) nD
      have hx := hx.same SD
      have hD : upd H5 D (.lst []) D = some (.lst []) := upd_same
      generalize upd H5 D (.lst []) = H6 at SD hx hD ⊢
      refine ⟨3, rfl, by omega, by omega, ?_⟩
      refine for_range (lo := 0) (n := 3) (fun j σ H' => ∃ (v3 v4 : Option V), σ = [some u, some x, some (.ref D), v3, v4, none] ∧ Same H5 H' ∧ NoProg K H' x ∧ H' D = some (.lst (List.replicate j (.str "program")))) ⟨v3, v4, rfl, SD, hx, hD⟩ (fun j σ H7 hj q => ?_) (fun σ H7 q => ?_)
      · obtain ⟨v3, v4, rfl, S7, hx7, hD7⟩ := q
        have fin : ∀ (H8 : Hp), Same H7 H8 → ∃ (v3 v4 : Option V), [some u, some x, some (V.ref D), some (.int (0 + (j : Nat))), some (.str "program"), none] = [some u, some x, some (.ref D), v3, v4, none] ∧ Same H5 (upd H8 D (.lst (List.replicate j (.str "program") ++ [.str "program"]))) ∧ NoProg K (upd H8 D (.lst (List.replicate j (.str "program") ++ [.str "program"]))) x ∧
            upd H8 D (.lst (List.replicate j (.str "program") ++ [.str "program"])) D = some (.lst (List.replicate (j + 1) (.str "program"))) := fun H8 S8 => by
          have SS : Same H5 (upd H8 D (.lst (List.replicate j (.str "program") ++ [.str "program"]))) := fun b o hb => by
            rw [upd_ne (ne_of_none hb nD)]
            exact S8 _ _ (S7 _ _ hb)
          refine ⟨_, _, rfl, SS, ?_, ?_⟩
          · exact ((all x (List.mem_of_getElem? hi)).same S).same SS
          · rw [upd_same, List.replicate_succ']
        obtain rfl | rfl | rfl : j = 0 ∨ j = 1 ∨ j = 2 := by omega
        ·
          refine ⟨_, rfl, rfl, _, rfl, iteT' (by decide +kernel) ?_⟩
          refine ⟨_, rfl, _, rfl, .inl ⟨x, u, rfl, hx7, fun d0 H8 S8 nd hd => ?_⟩⟩
          refine ⟨true, EA.te, fun _ a0 ha0 => ?_, fun q => Bool.noConfusion q⟩
          refine ⟨_, rfl, rfl, rfl, d0, _, .str "program", rfl, hd, rfl, ?_⟩
          refine ⟨_, rfl, Or.inl ⟨rfl, _, SqL.of (S8 _ _ hD7)⟩, _, rfl, D, _, _, rfl, rfl, S8 _ _ hD7, small1000 (by simp), ?_⟩
          exact fin H8 S8
        ·
          refine ⟨_, rfl, rfl, _, rfl, iteF' (by decide +kernel) ?_⟩
          refine ⟨_, rfl, rfl, _, rfl, iteT' (by decide +kernel) ?_⟩
          refine ⟨_, rfl, _, rfl, .inl ⟨x, u, rfl, hx7, fun d0 H8 S8 nd hd => ?_⟩⟩
          refine ⟨true, EA.te, fun _ a0 ha0 => ?_, fun q => Bool.noConfusion q⟩
          refine ⟨_, rfl, rfl, rfl, d0, _, .str "program", rfl, hd, rfl, ?_⟩
          refine ⟨_, rfl, Or.inl ⟨rfl, _, SqL.of (S8 _ _ hD7)⟩, _, rfl, D, _, _, rfl, rfl, S8 _ _ hD7, small1000 (by simp), ?_⟩
          exact fin H8 S8
        ·
          refine ⟨_, rfl, rfl, _, rfl, iteF' (by decide +kernel) ?_⟩
          refine ⟨_, rfl, rfl, _, rfl, iteF' (by decide +kernel) ?_⟩
          refine ⟨_, rfl, _, rfl, .inl ⟨x, u, rfl, hx7, fun d0 H8 S8 nd hd => ?_⟩⟩
          refine ⟨true, EA.te, fun _ a0 ha0 => ?_, fun q => Bool.noConfusion q⟩
          refine ⟨_, rfl, rfl, rfl, d0, _, .str "program", rfl, hd, rfl, ?_⟩
          refine ⟨_, rfl, Or.inl ⟨rfl, _, SqL.of (S8 _ _ hD7)⟩, _, rfl, D, _, _, rfl, rfl, S8 _ _ hD7, small1000 (by simp), ?_⟩
          exact fin H8 S8
      · obtain ⟨v3, v4, rfl, S7, hx7, hD7⟩ := q
        have hD8 : H7 D = some (.lst [V.str "program", V.str "program", V.str "program"]) := hD7
        refine ⟨_, rfl, by show 3 ≤ sizeLine; decide, fun e ne => ?_⟩
        have Se := Same.new (o := .lst [V.str "program", V.str "program", V.str "program"]) ne
        have dp : DpAll K (upd H7 e (.lst [V.str "program", V.str "program", V.str "program"])) [V.str "program", V.str "program", V.str "program"] [.str "program", .str "program", .str "program"] := .cons (.str _) (.cons (.str _) (.cons (.str _) .nil))
        refine ⟨_, _, .lst (SqL.of (Se _ _ hD8)) dp, .lst (SqL.of upd_same) dp, by decide +kernel, by decide +kernel, _, rfl, iteF' (by decide +kernel) ?_⟩
        exact ⟨_, _, _, _, rfl, S.trans (S7.trans Se)⟩
    · obtain ⟨v1, v2, v3, v4, rfl, S⟩ := y
      exact k _ (S4.trans S)
end
end K13

set_option Elab.async false
set_option maxRecDepth 100000
set_option maxHeartbeats 4000000
set_option linter.all false
namespace K13
open PySem PySem.Spec PyProof.Rows L2
theorem GoodV.stay {K : PySem.W.Frag} {H H' : Hp} {v : V} (f : ∀ a xs, SqT K H a xs → SqT K H' a xs) (h : GoodV K H v) : GoodV K H' v := by
  obtain ⟨t, h1, h2⟩ := h
  exact ⟨t, h1.stay f, h2⟩
theorem bsTg {K : PySem.W.Frag} {H H' : Hp} {g : Addr} {zs : List V} (e : Bs H H' g) (hg : H g = some (.lst zs)) {a : Addr} {xs : List V} (ht : SqT K H a xs) : SqT K H' a xs := by
  rcases ht with (ht | ⟨o, ht⟩) | ht
  · exact .inl (.inl (e _ _ ht (ne_of ht hg (by intro z; cases z))))
  · exact .inl (.inr ⟨o, e _ _ ht (ne_of ht hg (by intro z; cases z))⟩)
  · exact .inr ht
structure HS (K : PySem.W.Frag) (H : Hp) (b c g l : Addr) (s : S) (ys : List V) : Prop where
  bg : Bg H b c
  hg : H g = some (.lst (thV s))
  hl : H l = some (.lst ys)
  gl : g ≠ l
  gc : g ≠ c
  lc : l ≠ c
  all : AllG K H ys
  gd : Good s
  few : s.kinds.length ≤ 300
theorem Bg.nl {H : Hp} {b c a : Addr} {xs : List V} (h : Bg H b c) (ha : H a = some (.lst xs)) : a ≠ b := by
  obtain ⟨_, _, _, _, _, h1, _⟩ := h
  exact ne_of ha h1 (by intro z; cases z)
theorem HS.same {K : PySem.W.Frag} {H H' : Hp} {b c g l : Addr} {s : S} {ys : List V} (h : HS K H b c g l s ys) (e : Same H H') : HS K H' b c g l s ys :=
  ⟨h.bg.same e, e _ _ h.hg, e _ _ h.hl, h.gl, h.gc, h.lc, h.all.same e, h.gd, h.few⟩
theorem HS.bs {K : PySem.W.Frag} {H H' : Hp} {b c g l : Addr} {s : S} {ys : List V} (h : HS K H b c g l s ys) (q : Bg H' b c) (e : Bs H H' b) : HS K H' b c g l s ys :=
  ⟨q, e _ _ h.hg (h.bg.nl h.hg), e _ _ h.hl (h.bg.nl h.hl), h.gl, h.gc, h.lc, h.all.bs e h.bg, h.gd, h.few⟩
theorem HS.ent {K : PySem.W.Frag} {H H' : Hp} {b c g l : Addr} {s s' : S} {ys : List V} (h : HS K H b c g l s ys) (e : Bs H H' g) (hg : H' g = some (.lst (thV s'))) (gd : Good s') (few : s'.kinds.length ≤ 300) : HS K H' b c g l s' ys := by
  refine ⟨?_, hg, e _ _ h.hl h.gl.symm, h.gl, h.gc, h.lc, fun y hy => (h.all y hy).stay fun a xs => bsTg e h.hg, gd, few⟩
  have nb := h.bg.nl h.hg
  obtain ⟨x1, x2, x3, x4, x5, h1, h2⟩ := h.bg
  exact ⟨x1, x2, x3, x4, x5, e _ _ h1 nb.symm, e _ _ h2 h.gc.symm⟩
theorem HS.app {K : PySem.W.Frag} {H : Hp} {b c g l : Addr} {s : S} {ys : List V} {v : V} (h : HS K H b c g l s ys) (hv : GoodV K H v) : HS K (upd H l (.lst (ys ++ [v]))) b c g l s (ys ++ [v]) := by
  refine ⟨h.bg.beside (h.bg.nl h.hl) h.lc, by rw [upd_ne h.gl]; exact h.hg, upd_same, h.gl, h.gc, h.lc, fun y hy => ?_, h.gd, h.few⟩
  have f : ∀ a xs, SqT K H a xs → SqT K (upd H l (.lst (ys ++ [v]))) a xs := fun a xs ht => updT h.hl ht
  rcases List.mem_append.mp hy with z | z
  · exact (h.all y z).stay f
  · rw [List.mem_singleton.mp z]
    exact hv.stay f
theorem mem_cutV {xs : List V} {lo hi : Option Int} {y : V} (h : y ∈ cutV xs lo hi) : y ∈ xs := by
  unfold cutV at h
  exact List.mem_of_mem_drop (List.mem_of_mem_take h)
def spHist (K : PySem.W.Frag) : Sp := fun vs H Q _ => ∃ (b c g : Addr), vs = [.ref b, .ref g] ∧ Bg H b c ∧ g ≠ c ∧ H g = some (.lst []) ∧ ∀ (l : Addr) (xs : List V) (H' : Hp), H' l = some (.lst xs) → AllO K H' xs → xs.length ≤ 130 → Q (.ref l) H'
section
variable {P : Program} {w : World} {K : PySem.W.Frag} {mg : Str → Option Value} {base : Heap}
theorem ok_history {f : Addr} {fd : FuncData} (F : FnP K "_law_history" "_law_history" s__law_history f fd) (T : Tx w K mg) (G__law_draw : Def P w K mg base CX0 1 "_law_draw" p__law_draw spDraw) (G__law_one : Def P w K mg base CX0 2 "_law_one" p__law_one (spOne K))
    (G__law_word : Def P w K mg base CX0 3 "_law_word" p__law_word (spWord K)) (G__law_token : Def P w K mg base CX0 4 "_law_token" p__law_token (spToken K)) (G__law_odd : Def P w K mg base CX0 2 "_law_odd" p__law_odd (spOdd K))
    (G__law_fits : Def P w K mg base CX0 1 "_law_fits" p__law_fits (spFitsL K)) (G__law_enter : Def P w K mg base CX0 1 "_law_enter" p__law_enter (spEnter K)) : FnOk P w K mg base CX0 5 f fd p__law_history (spHist K) := by
  refine F.ok sc__law_history (fun vs H Q E h => ?_) (fun cdv A outer s H vs Q E hr h => ?_)
  · obtain ⟨b, c, g, rfl, _⟩ := h
    rfl
  · obtain ⟨b, c, g, rfl, hb, gc, hg, k⟩ := h
    refine ⟨_, PSs.nox (pss_cons (ps_set (i := 2) sc__law_history.nd rfl (.inl rfl) (pe_lst (pa_cons (pe_tup (pa_cons pe_str (pa_cons (pe_fn G__law_word (hr.mono (by decide)) (by rfl) pass0 (pa_cons (pv 0) pa_nil)) pa_nil))) pa_nil)))
      (pss_cons (ps_for PassesOwn.never rfl (pi_range1 (by rfl) T.b_range (pa_cons (pe_fn G__law_draw (hr.mono (by decide)) (by rfl) pass0 (pa_cons (pv 0) (pa_cons pe_int pa_nil))) pa_nil)) (pg_name (i := 3) sc__law_history.nd rfl (.inl rfl)) (pss_cons (ps_set (i := 8) sc__law_history.nd rfl (.inl rfl) (pe_fn G__law_token (hr.mono (by decide)) (by rfl) pass0 (pa_cons (pv 0) (pa_cons (pv 1) pa_nil))))
      (pss_one (ps_if (PW.pt (pw_and (pt_val (pe_fn G__law_fits (hr.mono (by decide)) (by rfl) pass0 (pa_cons (pv 8) (pa_cons (pv 1) (pa_cons (pe_callB call_len_seq (by rfl) T.b_len PySem.boot_len (pa_cons (pv 2) pa_nil)) pa_nil))))) (pw_and1 (pt_cmpR op_ne (pe_ix ix_tup (pv 8) pe_int (fun _ _ => rfl)) pe_str (nomark _))))) (pss_cons (ps_expr (pe_bm PySem.F.plainAttrs_list PySem.F.slot_list_append PySem.F.type_list_append mt_append (pv 2) (pa_cons (pv 8) pa_nil)))
      (pss_one (ps_expr (pe_fn G__law_enter (hr.mono (by decide)) (by rfl) pass0 (pa_cons (pv 8) (pa_cons (pv 1) pa_nil)))))) pss_nil))))
      (C8.pss_cut (ps_if (pt_cmpR op_eq (pe_fn G__law_draw (hr.mono (by decide)) (by rfl) pass0 (pa_cons (pv 0) (pa_cons pe_int pa_nil))) pe_int (nomark _)) (pss_one (ps_expr (pe_bm PySem.F.plainAttrs_list PySem.F.slot_list_append PySem.F.type_list_append mt_append (pv 2) (pa_cons (pe_fn G__law_one (hr.mono (by decide)) (by rfl) pass0 (pa_cons (pv 0) (pa_cons (pe_lst (pa_cons (pe_tup (pa_cons pe_str (pa_cons pe_str pa_nil))) (pa_cons (pe_tup (pa_cons pe_str (pa_cons pe_str pa_nil))) pa_nil))) pa_nil))) pa_nil)))) pss_nil)
      (pss_cons (ps_set (i := 4) sc__law_history.nd rfl (.inl rfl) (pe_fn G__law_draw (hr.mono (by decide)) (by rfl) pass0 (pa_cons (pv 0) (pa_cons (pe_callB call_len_seq (by rfl) T.b_len PySem.boot_len (pa_cons (pv 2) pa_nil)) pa_nil))))
      (pss_cons (ps_set (i := 5) sc__law_history.nd rfl (.inl rfl) (pe_fn G__law_draw (hr.mono (by decide)) (by rfl) pass0 (pa_cons (pv 0) (pa_cons pe_int pa_nil))))
      (pss_cons (ps_set (i := 6) sc__law_history.nd rfl (.inl rfl) (pe_fn G__law_odd (hr.mono (by decide)) (by rfl) pass0 (pa_cons (pv 0) (pa_cons (pv 1) pa_nil))))
      (C8.pss_cut (ps_if (pt_cmpR op_eq (pe_fn G__law_draw (hr.mono (by decide)) (by rfl) pass0 (pa_cons (pv 0) (pa_cons pe_int pa_nil))) pe_int (nomark _)) (pss_one (ps_set (i := 6) sc__law_history.nd rfl (.inl rfl) (pe_fn G__law_token (hr.mono (by decide)) (by rfl) pass0 (pa_cons (pv 0) (pa_cons (pv 1) pa_nil))))) pss_nil)
      (pss_cons (ps_if (pt_cmpR op_eq (pv 5) pe_int (nomark _)) (pss_one (ps_ret (pe_op op_cat (pe_slice sl_list (pv 2) po_none (po_some (pv 4))) (pe_slice sl_list (pv 2) (po_some (pe_op op_add (pv 4) pe_int)) po_none)))) pss_nil)
      (pss_cons (ps_if (pt_cmpR op_gt (pv 5) pe_int (nomark _)) (pss_one (ps_ret (pv 2))) pss_nil)
      (pss_cons (ps_set (i := 7) sc__law_history.nd rfl (.inl rfl) (pe_ix ix_list (pe_lst (pa_cons (pe_lst (pa_cons (pv 6) pa_nil)) (pa_cons (pe_lst (pa_cons (pv 6) (pa_cons (pe_ix ix_list (pv 2) (pv 4) (fun _ _ => rfl)) pa_nil))) (pa_cons (pe_op op_rep (pe_lst (pa_cons (pe_ix ix_list (pv 2) (pv 4) (fun _ _ => rfl)) pa_nil)) pe_int) pa_nil)))) (pe_op op_sub (pv 5) pe_int) (fun _ _ => rfl)))
      (pss_one (ps_ret (pe_op op_cat (pe_op op_cat (pe_slice sl_list (pv 2) po_none (po_some (pv 4))) (pv 7)) (pe_slice sl_list (pv 2) (po_some (pe_op op_add (pv 4) pe_int)) po_none)))))))))))))), ?_⟩
    refine ⟨_, rfl, b, c, rfl, hb, fun z H1 hz hb1 bs1 => ⟨by show 2 ≤ sizeLine; decide, fun t1 n1 => ⟨by show 1 ≤ sizeLine; decide, fun l nl => ?_⟩⟩⟩
    have hg1 := bs1 _ _ hg (hb.nl hg)
    have S1 := Same.new (o := .tup [V.str "begin", V.str z]) n1
    have S2 := Same.new (o := .lst [V.ref t1]) nl
    have gl : g ≠ l := ne_of_none (S1 _ _ hg1) nl
    have lc := ((hb1.same S1).tr nl).2
    have h0 : HS K (upd (upd H1 t1 (.tup [V.str "begin", V.str z])) l (.lst [V.ref t1])) b c g l s0 [V.ref t1] := by
      refine ⟨(hb1.same S1).same S2, (S1.trans S2) _ _ hg1, upd_same, gl, gc, lc, fun y hy => ?_, good0, by decide⟩
      rw [List.mem_singleton.mp hy]
      exact ⟨.begin z, ⟨t1, rfl, SqT.of (S2 _ _ upd_same)⟩, okW1 (by simp [Tok.words, hz])⟩
    generalize upd (upd H1 t1 (.tup [V.str "begin", V.str z])) l (.lst [V.ref t1]) = H2 at h0
    refine ⟨_, rfl, b, c, 60, rfl, h0.bg, by decide, fun d H3 hd hb3 ho3 => ⟨(d : Nat), rfl, by omega, by omega, ?_⟩⟩
    have h1 := h0.bs hb3 ho3.bs
    have hd60 : d < 60 := by omega
    refine for_range (lo := 0) (n := d) (fun i σ H' => ∃ (st : S) (ys : List V) (v3 v8 : Option V), σ = [some (.ref b), some (.ref g), some (.ref l), v3, none, none, none, none, v8] ∧ HS K H' b c g l st ys ∧ ys.length ≤ i + 1 ∧ ys ≠ [] ∧ st.kinds.length ≤ i) ⟨s0, _, none, none, rfl, h1, Nat.le_refl _, by simp, Nat.le_refl _⟩ (fun i σ H' hi q => ?_) (fun σ H' q => ?_)
    · obtain ⟨st, ys, v3, v8, rfl, h2, yl, yn, kl⟩ := q
      refine ⟨_, rfl, _, rfl, b, c, g, st, rfl, h2.bg, h2.hg, h2.few, fun v H4 gv hb4 bs4 => ?_⟩
      have h3 := h2.bs hb4 bs4
      have gv' := gv
      obtain ⟨t, htok, okw⟩ := gv'
      refine ⟨_, rfl, _, rfl, _, rfl, l, _, rfl, .inl (SqL.of h3.hl), v, g, ys.length, st, some t, rfl, ⟨htok, okw⟩, h3.hg, h3.gd, h3.few, fun H5 S5 => ⟨_, rfl, ?_⟩⟩
      have h4 := h3.same S5
      have stay : ∃ (st' : S) (ys' : List V) (v3 v8 : Option V), [some (V.ref b), some (V.ref g), some (V.ref l), some (.int (0 + (i : Nat))), none, none, none, none, some v] = [some (V.ref b), some (V.ref g), some (V.ref l), v3, none, none, none, none, v8] ∧ HS K H5 b c g l st' ys' ∧ ys'.length ≤ i + 1 + 1 ∧ ys' ≠ [] ∧ st'.kinds.length ≤ i + 1 :=
        ⟨st, ys, _, _, rfl, h4, by omega, yn, by omega⟩
      cases ef : fitO st ys.length (some t) with
      | false =>
        refine iteF ?_
        refine iteF ?_
        exact stay
      | true =>
        refine iteT ?_
        obtain ⟨a, rfl, ha⟩ := htok.same S5
        have ko : kindOk st t = true := by
          simp only [fitO, Bool.and_eq_true] at ef
          exact ef.2
        refine ⟨_, rfl, a, _, _, .str t.head, rfl, rfl, ha, at0, rfl, _, rfl, ?_⟩
        refine ite2 (fun _ => ?_) fun _ => ?_
        · have h5 := h4.app (gv.same S5)
          refine ⟨_, rfl, Or.inl ⟨rfl, _, SqL.of h4.hl⟩, _, rfl, l, _, _, rfl, rfl, h4.hl, small1000 (by omega), ?_⟩
          refine ⟨_, rfl, _, rfl, .ref a, g, t, st, rfl, ⟨a, rfl, updT h4.hl ha⟩, h5.hg, h5.gd, h5.few, ko, fun H6 B6 hg6 => ?_⟩
          have := kinds_go st t
          exact ⟨go st t, _, _, _, rfl, h5.ent B6 hg6 (h5.gd.go t) (by omega), by simp; omega, by simp, by omega⟩
        · exact stay
    · obtain ⟨st, ys, v3, v8, rfl, h2, yl, yn, kl⟩ := q
      refine ⟨fun σ' H' => ∃ (ys : List V), σ' = [some (.ref b), some (.ref g), some (.ref l), v3, none, none, none, none, v8] ∧ HS K H' b c g l st ys ∧ ys.length ≤ 62 ∧ ys ≠ [], ?_, ?_⟩
      · refine ⟨_, rfl, b, c, 3, rfl, h2.bg, by decide, fun d3 H4 _ hb4 ho4 => ⟨rfl, _, rfl, ?_⟩⟩
        have h3 := h2.bs hb4 ho4.bs
        refine ite2 (fun _ => ?_) fun _ => ?_
        · refine ⟨_, rfl, Or.inl ⟨rfl, _, SqL.of h3.hl⟩, _, rfl, by show 2 ≤ sizeLine; decide, fun t2 n2 => ⟨by show 2 ≤ sizeLine; decide, fun t3 n3 => ⟨by show 2 ≤ sizeLine; decide, fun e ne => ?_⟩⟩⟩
          have A1 := Same.new (o := .tup [V.str "ended", V.str "x"]) n2
          have A2 := Same.new (o := .tup [V.str "anew", V.str "yes"]) n3
          have A3 := Same.new (o := .lst [V.ref t2, V.ref t3]) ne
          have h4 := h3.same ((A1.trans A2).trans A3)
          have al : AllG K (upd (upd (upd H4 t2 (.tup [V.str "ended", V.str "x"])) t3 (.tup [V.str "anew", V.str "yes"])) e (.lst [V.ref t2, V.ref t3])) [V.ref t2, V.ref t3] := by
            intro y hy
            simp only [List.mem_cons, List.not_mem_nil, or_false] at hy
            rcases hy with rfl | rfl
            · exact ⟨.ended "x", ⟨t2, rfl, SqT.of ((A2.trans A3) _ _ upd_same)⟩, okW1 (by decide +kernel)⟩
            · exact ⟨.anew "yes", ⟨t3, rfl, SqT.of (A3 _ _ upd_same)⟩, okW1 (by decide +kernel)⟩
          have he : upd (upd (upd H4 t2 (.tup [V.str "ended", V.str "x"])) t3 (.tup [V.str "anew", V.str "yes"])) e (.lst [V.ref t2, V.ref t3]) e = some (.lst [V.ref t2, V.ref t3]) := upd_same
          generalize upd (upd (upd H4 t2 (.tup [V.str "ended", V.str "x"])) t3 (.tup [V.str "anew", V.str "yes"])) e (.lst [V.ref t2, V.ref t3]) = H5 at h4 al he
          refine ⟨b, c, e, _, rfl, h4.bg, SqL.of he, by simp, by show 2 < 1000000; decide, fun v H6 hv hb6 ho6 => ?_⟩
          have h5 := h4.bs hb6 ho6.bs
          refine ⟨l, _, _, rfl, rfl, h5.hl, small1000 (by omega), ?_⟩
          exact ⟨_, rfl, h5.app ((al v hv).bs ho6.bs h4.bg), by simp; omega, by simp⟩
        · exact ⟨ys, rfl, h3, by omega, yn⟩
      · clear h2 yl yn
        rintro σ' H4 ⟨ys, rfl, h2, yl, yn⟩
        have h2o : ∀ H', Same H4 H' → AllO K H' ys := fun H' S y hy => ((h2.all y hy).same S).odd
        refine ⟨_, rfl, _, rfl, l, _, rfl, .inl (SqL.of h2.hl), b, c, ys.length, rfl, h2.bg, by omega, fun pl H5 hpl hb5 ho5 => ?_⟩
        have h3 := h2.bs hb5 ho5.bs
        have plt : pl < ys.length := by
          have : 0 < ys.length := List.length_pos_iff.mpr yn
          omega
        refine ⟨_, rfl, b, c, 6, rfl, h3.bg, by decide, fun way H6 hway hb6 ho6 => ?_⟩
        have h4 := h3.bs hb6 ho6.bs
        refine ⟨_, rfl, _, rfl, b, c, g, rfl, h4.bg, fun u H7 hu7 hb7 bs7 => ?_⟩
        have h5 := h4.bs hb7 bs7
        refine ⟨fun σ' H' => ∃ (u : V), σ' = [some (.ref b), some (.ref g), some (.ref l), v3, some (.int (pl : Nat)), some (.int (way : Nat)), some u, none, v8] ∧ HS K H' b c g l st ys ∧ OddV K H' u, ?_, ?_⟩
        · refine ⟨_, rfl, b, c, 2, rfl, h5.bg, by decide, fun d2 H8 _ hb8 ho8 => ⟨rfl, _, rfl, ?_⟩⟩
          have h6 := h5.bs hb8 ho8.bs
          refine ite2 (fun _ => ?_) fun _ => ?_
          · refine ⟨_, rfl, _, rfl, b, c, g, st, rfl, h6.bg, h6.hg, h6.few, fun v H9 gv hb9 bs9 => ?_⟩
            exact ⟨v, rfl, h6.bs hb9 bs9, gv.odd⟩
          · obtain ⟨o, ho⟩ := hu7
            exact ⟨u, rfl, h6, o, ho.bs ho8.bs h5.bg⟩
        · clear h2 h3 h4 h5 h2o hu7
          rintro σ' H8 ⟨u, rfl, h, hu⟩
          have ho : ∀ H', Same H8 H' → AllO K H' ys := fun H' S y hy => ((h.all y hy).same S).odd
          have hsub : ∀ H' lo hi, Same H8 H' → AllO K H' (cutV ys lo hi) := fun H' lo hi S y hy => ho H' S y (mem_cutV hy)
          have hcl := fun lo hi => cutV_length ys lo hi
          refine ⟨_, rfl, rfl, _, rfl, ?_⟩
          refine ite2 (fun c0 => ?_) fun c0 => ?_
          · refine ⟨_, rfl, _, rfl, _, rfl, l, ys, rfl, SqL.of h.hl, fun p1 n1 => ?_⟩
            have A1 := Same.new (o := .lst (cutV ys none (some (pl : Nat)))) n1
            refine ⟨_, rfl, _, rfl, _, _, rfl, rfl, _, rfl, l, ys, rfl, SqL.of (A1 _ _ h.hl), fun p2 n2 => ?_⟩
            have A2 := Same.new (o := .lst (cutV ys (some ((pl : Nat) + 1)) none)) n2
            have l1 := hcl none (some (pl : Nat))
            have l2 := hcl (some ((pl : Nat) + 1)) none
            refine ⟨p1, p2, _, _, rfl, rfl, A2 _ _ upd_same, upd_same, by rw [sizeLine_eq]; omega, fun p3 n3 => ?_⟩
            have A3 := Same.new (o := .lst (cutV ys none (some (pl : Nat)) ++ cutV ys (some ((pl : Nat) + 1)) none)) n3
            exact k p3 _ _ upd_same (AllO.app (hsub _ _ _ ((A1.trans A2).trans A3)) (hsub _ _ _ ((A1.trans A2).trans A3))) (by rw [List.length_append]; omega)
          · refine ⟨_, rfl, _, _, rfl, rfl, _, rfl, ?_⟩
            refine ite2 (fun c1 => ?_) fun c1 => ?_
            · exact ⟨_, rfl, k l ys _ h.hl (ho _ (Same.refl _)) (by omega)⟩
            · have hat : atI ys (pl : Nat) = some ys[pl] := atI_nat (List.getElem?_eq_getElem plt)
              have hmem : ys[pl] ∈ ys := List.getElem_mem plt
              generalize ys[pl] = yp at hat hmem
              refine ⟨_, rfl, by show 1 ≤ sizeLine; decide, fun i1 m1 => ?_⟩
              have B1 := Same.new (o := .lst [u]) m1
              refine ⟨_, rfl, _, rfl, _, rfl, l, ys, _, yp, rfl, rfl, SqL.of (B1 _ _ h.hl), hat, by show 2 ≤ sizeLine; decide, fun i2 m2 => ?_⟩
              have B2 := Same.new (o := .lst [u, yp]) m2
              refine ⟨_, rfl, _, rfl, l, ys, _, yp, rfl, rfl, SqL.of ((B1.trans B2) _ _ h.hl), hat, by show 1 ≤ sizeLine; decide, fun i3 m3 => ?_⟩
              have B3 := Same.new (o := .lst [yp]) m3
              refine ⟨i3, 2, [yp], rfl, rfl, upd_same, by decide, by decide, by show 1 * 2 ≤ sizeLine; decide, fun i4 m4 => ?_⟩
              have B4 : Same _ (upd (upd (upd (upd H8 i1 (.lst [u])) i2 (.lst [u, yp])) i3 (.lst [yp])) i4 (.lst (List.replicate (2 : Int).toNat [yp]).flatten)) := Same.new (o := .lst (List.replicate (2 : Int).toNat [yp]).flatten) m4
              refine ⟨by show 3 ≤ sizeLine; decide, fun I mI => ?_⟩
              have B5 := Same.new (o := .lst [V.ref i1, V.ref i2, V.ref i4]) mI
              have q1 := (((B2.trans B3).trans B4).trans B5) _ _ (upd_same (H := H8) (a := i1) (o := .lst [u]))
              have q2 := ((B3.trans B4).trans B5) _ _ (upd_same (a := i2) (o := .lst [u, yp]))
              have q4 : upd (upd (upd (upd (upd H8 i1 (.lst [u])) i2 (.lst [u, yp])) i3 (.lst [yp])) i4 (.lst (List.replicate (2 : Int).toNat [yp]).flatten)) I (.lst [V.ref i1, V.ref i2, V.ref i4]) i4 = some (.lst [yp, yp]) := B5 _ _ upd_same
              have SB : Same H8 (upd (upd (upd (upd (upd H8 i1 (.lst [u])) i2 (.lst [u, yp])) i3 (.lst [yp])) i4 (.lst (List.replicate (2 : Int).toNat [yp]).flatten)) I (.lst [V.ref i1, V.ref i2, V.ref i4])) := (((B1.trans B2).trans B3).trans B4).trans B5
              have hI : upd (upd (upd (upd (upd H8 i1 (.lst [u])) i2 (.lst [u, yp])) i3 (.lst [yp])) i4 (.lst (List.replicate (2 : Int).toNat [yp]).flatten)) I (.lst [V.ref i1, V.ref i2, V.ref i4]) I = some (.lst [V.ref i1, V.ref i2, V.ref i4]) := upd_same
              generalize upd (upd (upd (upd (upd H8 i1 (.lst [u])) i2 (.lst [u, yp])) i3 (.lst [yp])) i4 (.lst (List.replicate (2 : Int).toNat [yp]).flatten)) I (.lst [V.ref i1, V.ref i2, V.ref i4]) = H9 at q1 q2 q4 SB hI
              obtain ⟨e, zs, hat2, hzs, ozs, lzs⟩ : ∃ (e : Addr) (zs : List V), atI [V.ref i1, V.ref i2, V.ref i4] ((way : Int) - 1) = some (V.ref e) ∧ H9 e = some (.lst zs) ∧ (∀ y ∈ zs, y = u ∨ y = yp) ∧ zs.length ≤ 2 := by
                have w0 : way ≠ 0 := fun z => by rw [z] at c0; exact absurd c0 (by decide +kernel)
                have w3 : way ≤ 3 := by
                  have : ¬ ((3 : Int) < (way : Nat)) := fun z => c1 (decide_eq_true z)
                  omega
                obtain rfl | rfl | rfl : way = 1 ∨ way = 2 ∨ way = 3 := by omega
                · exact ⟨i1, _, rfl, q1, by simp, by show 1 ≤ 2; decide⟩
                · exact ⟨i2, _, rfl, q2, by simp, by show 2 ≤ 2; decide⟩
                · exact ⟨i4, _, rfl, q4, by simp, by show 2 ≤ 2; decide⟩
              refine ⟨_, rfl, _, _, rfl, rfl, I, _, _, _, rfl, rfl, SqL.of hI, hat2, ?_⟩
              have hl9 := SB _ _ h.hl
              refine ⟨_, rfl, _, rfl, _, rfl, l, ys, rfl, SqL.of hl9, fun p1 n1 => ?_⟩
              have A1 := Same.new (o := .lst (cutV ys none (some (pl : Nat)))) n1
              have l1 := hcl none (some (pl : Nat))
              have l2 := hcl (some ((pl : Nat) + 1)) none
              refine ⟨_, rfl, p1, e, _, _, rfl, rfl, upd_same, A1 _ _ hzs, by rw [sizeLine_eq]; omega, fun p2 n2 => ?_⟩
              have A2 := Same.new (o := .lst (cutV ys none (some (pl : Nat)) ++ zs)) n2
              refine ⟨_, rfl, _, rfl, _, _, rfl, rfl, _, rfl, l, ys, rfl, SqL.of ((A1.trans A2) _ _ hl9), fun p3 n3 => ?_⟩
              have A3 := Same.new (o := .lst (cutV ys (some ((pl : Nat) + 1)) none)) n3
              refine ⟨p2, p3, _, _, rfl, rfl, A3 _ _ upd_same, upd_same, by rw [sizeLine_eq, List.length_append]; omega, fun p4 n4 => ?_⟩
              have A4 := Same.new (o := .lst (cutV ys none (some (pl : Nat)) ++ zs ++ cutV ys (some ((pl : Nat) + 1)) none)) n4
              have SA := SB.trans (((A1.trans A2).trans A3).trans A4)
              refine k p4 _ _ upd_same (AllO.app (AllO.app (hsub _ _ _ SA) fun y hy => ?_) (hsub _ _ _ SA)) (by rw [List.length_append, List.length_append]; omega)
              rcases ozs y hy with rfl | rfl
              · exact hu.same SA
              · exact ho _ SA _ hmem
end
end K13

set_option Elab.async false
set_option maxRecDepth 100000
set_option maxHeartbeats 4000000
set_option linter.all false
namespace K13
open PySem PySem.Spec PyProof.Rows L2
theorem SameV.up {K : PySem.W.Frag} {H : Hp} {n : Nat} {v w : V} (h : SameV K H n v w) : SameV K H (n + 1) v w := by
  induction h with
  | int i => exact .int i
  | str z => exact .str z
  | lst ha hb few el _ ih => exact .lst ha hb few el ih
  | tup ha hb few el _ ih => exact .tup ha hb few el ih
theorem SameV.to {K : PySem.W.Frag} {H : Hp} {n m : Nat} {v w : V} (h : SameV K H n v w) (l : n ≤ m) : SameV K H m v w := by
  induction l with
  | refl => exact h
  | step _ ih => exact ih.up
theorem vals_plain (t : Tok) : ∀ x ∈ t.vals, (∃ z, x = V.str z) ∨ ∃ i, x = V.int i := by
  cases t <;> simp [Tok.vals, Tok.rest, Tok.head]
theorem vals_few (t : Tok) : t.vals.length ≤ 3 := by cases t <;> simp [Tok.vals, Tok.rest]
section
variable {K : PySem.W.Frag} {H : Hp}
theorem sameTok {n : Nat} {v w : V} {t : Tok} (h : TokAt K H v t) (g : TokAt K H w t) : SameV K H (n + 2) v w := by
  obtain ⟨a, rfl, ha⟩ := h
  obtain ⟨b, rfl, hb⟩ := g
  have l := vals_few t
  refine .tup ha hb (by omega) rfl fun i x y hx hy => ?_
  rw [hx] at hy
  cases hy
  rcases vals_plain t x (List.mem_of_getElem? hx) with ⟨z, rfl⟩ | ⟨z, rfl⟩
  · exact .str z
  · exact .int z
theorem sameToks {n : Nat} {p q : Addr} {xs ys : List V} {ts : List Tok} (hp : SqL K H p xs) (hq : SqL K H q ys) (h : All2 (TokAt K H) xs ts) (g : All2 (TokAt K H) ys ts) (few : ts.length ≤ 1000) : SameV K H (n + 3) (.ref p) (.ref q) := by
  have e1 := h.len
  have e2 := g.len
  refine .lst hp hq (by omega) (by omega) fun i x y hx hy => ?_
  obtain ⟨t, ht, h1⟩ := h.get hx
  obtain ⟨u, hu, h2⟩ := g.get hy
  rw [ht] at hu
  cases hu
  exact sameTok h1 h2
theorem sameTurns {n : Nat} {p q : Addr} {rs rs' : List Addr} {ts : List (List Tok)} (h : TurnsAt K H p rs ts) (g : TurnsAt K H q rs' ts) (few : ts.length ≤ 1000) (few2 : ∀ t ∈ ts, t.length ≤ 1000) : SameV K H (n + 4) (.ref p) (.ref q) := by
  have e1 := h.2.len
  have e2 := g.2.len
  refine .lst (SqL.of h.1) (SqL.of g.1) (by rw [List.length_map]; omega) (by rw [List.length_map, List.length_map]; omega) fun i x y hx hy => ?_
  rw [List.getElem?_map] at hx hy
  obtain ⟨r, hr, rfl⟩ := Option.map_eq_some_iff.mp hx
  obtain ⟨r', hr', rfl⟩ := Option.map_eq_some_iff.mp hy
  obtain ⟨t, ht, a, ha, h1⟩ := h.2.get hr
  obtain ⟨u, hu, b, hb, h2⟩ := g.2.get hr'
  rw [ht] at hu
  cases hu
  exact sameToks (SqL.of ha) (SqL.of hb) h1 h2 (few2 t (List.mem_of_getElem? ht))
theorem sameRef {a b : Addr} {i : Int} (ha : SqT K H a [.str "refused", .int i]) (hb : SqT K H b [.str "refused", .int i]) : SameV K H 2 (.ref a) (.ref b) := by
  refine .tup ha hb (by show 2 ≤ 1000; decide) rfl fun j x y hx hy => ?_
  match j with
  | 0 => cases hx; cases hy; exact .str _
  | 1 => cases hx; cases hy; exact .int _
  | j + 2 => simp at hx
theorem sameRefs {D p t : Addr} {as : List Addr} {i : Int} (hD : H D = some (.lst (as.map V.ref))) (hp : H p = some (.lst (List.replicate as.length (.ref t)))) (few : as.length ≤ 1000) (ha : ∀ a ∈ as, SqT K H a [.str "refused", .int i]) (ht : SqT K H t [.str "refused", .int i]) :
    SameV K H 3 (.ref D) (.ref p) := by
  refine .lst (SqL.of hD) (SqL.of hp) (by rw [List.length_map]; exact few) (by simp) fun j x y hx hy => ?_
  rw [List.getElem?_map] at hx
  obtain ⟨a, ha', rfl⟩ := Option.map_eq_some_iff.mp hx
  have : y = .ref t := by
    have := List.mem_of_getElem? hy
    exact List.eq_of_mem_replicate this
  rw [this]
  exact sameRef (ha a (List.mem_of_getElem? ha')) ht
theorem tv_ex : ∀ {xs : List V}, AllO K H xs → ∃ os, All2 (TV K H) xs os
  | [], _ => ⟨[], .nil⟩
  | x :: xs, h => by
    obtain ⟨o, ho⟩ := h x List.mem_cons_self
    obtain ⟨os, hos⟩ := tv_ex (xs := xs) fun y hy => h y (List.mem_cons_of_mem _ hy)
    exact ⟨o :: os, .cons ho hos⟩
end
def spLaw (K : PySem.W.Frag) : Sp := fun vs H Q _ => ∃ (a : Addr) (ns : List Int), vs = [.ref a] ∧ SqL K H a (ns.map V.int) ∧ ns.length ≤ 63 ∧ ∀ H', Q (.bl true) H'
end K13

set_option Elab.async false
set_option maxRecDepth 100000
set_option maxHeartbeats 4000000
set_option linter.all false
namespace K13
open PySem PySem.Spec PyProof.Rows L2
theorem eqv_own {K : PySem.W.Frag} {H : Hp} {x : V} (h : OddV K H x) : EqV K H 1 x x := by
  obtain ⟨o, ho⟩ := h
  cases o with
  | some t =>
    obtain ⟨⟨a, rfl, _⟩, _⟩ := ho
    exact .inr (.inl ⟨a, rfl, rfl⟩)
  | none =>
    cases (show Bad K H x from ho) with
    | non => exact .inl ⟨rfl, rfl⟩
    | int i => exact .inl ⟨rfl, rfl⟩
    | str z => exact .inl ⟨rfl, rfl⟩
    | lst h => exact .inr (.inl ⟨_, rfl, rfl⟩)
    | emp h => exact .inr (.inl ⟨_, rfl, rfl⟩)
    | head h n => exact .inr (.inl ⟨_, rfl, rfl⟩)
    | unk h n => exact .inr (.inl ⟨_, rfl, rfl⟩)
    | form t0 h n => exact .inr (.inl ⟨_, rfl, rfl⟩)
theorem eq_own {K : PySem.W.Frag} {H : Hp} : ∀ {xs : List V}, (∀ x ∈ xs, OddV K H x) → Paired (EqV K H 1) xs xs
  | [], _ => .nil
  | x :: xs, h => .cons (eqv_own (h x List.mem_cons_self)) (eq_own fun y hy => h y (List.mem_cons_of_mem _ hy))
section
variable {P : Program} {w : World} {K : PySem.W.Frag} {mg : Str → Option Value} {base : Heap}
theorem ok_law {f : Addr} {fd : FuncData} (F : FnP K "law" "law" s_law f fd) (T : Tx w K mg) (G__law_bag : Def P w K mg base CX0 1 "_law_bag" p__law_bag (spBag K)) (G__law_history : Def P w K mg base CX0 5 "_law_history" p__law_history (spHist K))
    (G__law_same : Def P w K mg base CX0 6 "_law_same" p__law_same (spSame K 6)) (G__law_told : Def P w K mg base CX0 8 "_law_told" p__law_told (spTold K)) (G__law_no_program : Def P w K mg base CX0 8 "_law_no_program" p__law_no_program (spNoProg K))
    (G__law_fault : Def P w K mg base CX0 2 "_law_fault" p__law_fault (spFault K)) (G__law_turns : Def P w K mg base CX0 1 "_law_turns" p__law_turns (spTurns K)) (G_cut : Def P w K mg base (L2.CX P w) 5 "cut" p_cut (spCutG K)) :
    FnOk P w K mg base CX0 9 f fd p_law (spLaw K) := by
  refine F.ok sc_law (fun vs H Q E h => ?_) (fun cdv A outer s H vs Q E hr h => ?_)
  · obtain ⟨a, ns, rfl, _⟩ := h
    rfl
  · obtain ⟨a, ns, rfl, hn, few, k⟩ := h
    have hu := hu_of hr
    refine ⟨_, PSs.nox (pss_cons (ps_set (i := 1) sc_law.nd rfl (.inl rfl) (pe_fn G__law_bag (hr.mono (by decide)) (by rfl) pass0 (pa_cons (pv 0) pa_nil)))
      (pss_cons (ps_set (i := 2) sc_law.nd rfl (.inl rfl) (pe_fn G__law_history (hr.mono (by decide)) (by rfl) pass0 (pa_cons (pv 1) (pa_cons (pe_lst pa_nil) pa_nil))))
      (pss_cons (ps_for PassesOwn.never rfl (pi_tup (pe_tup (pa_cons pe_non (pa_cons (pe_tup pa_nil) (pa_cons pe_str (pa_cons pe_dnewK (pa_cons pe_int (pa_cons (pe_callTy call_tuple_of (by rfl) T.b_tuple (by decide +kernel) (pa_cons (pv 2) pa_nil)) pa_nil)))))))) (pg_name (i := 3) sc_law.nd rfl (.inr rfl)) (pss_one (ps_if (pt_not (pt_val (pe_fn G__law_same (hr.mono (by decide)) (by rfl) pass0 (pa_cons (pe_lc (own := [("_law_k", 8)]) (g := (gName 8)) (by rfl) sc_law.nd (pi_range1 (by rfl) T.b_range (pa_cons pe_int pa_nil)) (blkOk_by (N := n_law) (sc := defScope s_law) (by decide +kernel)) (fun _ _ _ _ _ => (pg_name (i := 8) sc_law.nd rfl (.inl rfl))) (fun _ _ _ _ _ => pts_nil) (fun _ _ _ _ _ => (pe_fn G__law_told (hr.mono (by decide)) (by rfl) pass0 (pa_cons (pv 8) (pa_cons (pv 3) pa_nil))))) (pa_cons (pe_op op_rep (pe_lst (pa_cons (pe_tup (pa_cons pe_str (pa_cons (pe_un un_neg pe_int) pa_nil))) pa_nil)) pe_int) pa_nil))))) (pss_one (ps_ret pe_bl)) pss_nil)))
      (pss_cons (ps_if (pt_not (pt_val (pe_fn G__law_same (hr.mono (by decide)) (by rfl) pass0 (pa_cons (pe_lc (own := [("_law_k", 8)]) (g := (gName 8)) (by rfl) sc_law.nd (pi_range1 (by rfl) T.b_range (pa_cons pe_int pa_nil)) (blkOk_by (N := n_law) (sc := defScope s_law) (by decide +kernel)) (fun _ _ _ _ _ => (pg_name (i := 8) sc_law.nd rfl (.inl rfl))) (fun _ _ _ _ _ => pts_nil) (fun _ _ _ _ _ => (pe_fn G__law_told (hr.mono (by decide)) (by rfl) pass0 (pa_cons (pv 8) (pa_cons (pe_lst pa_nil) pa_nil))))) (pa_cons (pe_op op_rep (pe_lst (pa_cons (pe_tup (pa_cons pe_str (pa_cons pe_int pa_nil))) pa_nil)) pe_int) pa_nil))))) (pss_one (ps_ret pe_bl)) pss_nil)
      (pss_cons (ps_if (PW.pt (pw_or (pt_not (pt_val (pe_fn G__law_no_program (hr.mono (by decide)) (by rfl) pass0 (pa_cons (pe_callTy call_list_of (by rfl) T.b_list (by decide +kernel) (pa_cons (pv 2) pa_nil)) pa_nil)))) (pw_or1 (pt_not (pt_val (pe_fn G__law_no_program (hr.mono (by decide)) (by rfl) pass0 (pa_cons pe_non pa_nil))))))) (pss_one (ps_ret pe_bl)) pss_nil)
      (pss_cons (ps_set (i := 4) sc_law.nd rfl (.inl rfl) (pe_fn G__law_fault (hr.mono (by decide)) (by rfl) pass0 (pa_cons (pv 2) pa_nil)))
      (pss_cons (ps_set (i := 5) sc_law.nd rfl (.inl rfl) (pe_callTy call_list_of (by rfl) T.b_list (by decide +kernel) (pa_cons (pv 2) pa_nil)))
      (pss_cons (ps_if (pt_cmpR op_notN (pv 4) pe_non (nomark _)) (pss_cons (ps_for PassesOwn.never rfl (pi_range1 (by rfl) T.b_range (pa_cons pe_int pa_nil)) (pg_name (i := 8) sc_law.nd rfl (.inl rfl)) (pss_one (ps_if (pt_not (pt_val (pe_fn G__law_same (hr.mono (by decide)) (by rfl) pass0 (pa_cons (pe_fn G__law_told (hr.mono (by decide)) (by rfl) pass0 (pa_cons (pv 8) (pa_cons (pv 5) pa_nil))) (pa_cons (pe_tup (pa_cons pe_str (pa_cons (pv 4) pa_nil))) pa_nil))))) (pss_one (ps_ret pe_bl)) pss_nil)))
      (pss_one (ps_ret (pe_cmpR (op_eqV hr.units) (pv 5) (pv 2) (nomark _))))) pss_nil)
      (pss_cons (ps_if (pt_cmpR op_eq (pe_callB call_len_seq (by rfl) T.b_len PySem.boot_len (pa_cons (pv 2) pa_nil)) pe_int (nomark _)) (pss_one (ps_ret pe_bl)) pss_nil)
      (pss_cons (ps_set (i := 6) sc_law.nd rfl (.inl rfl) (pe_fn G__law_turns (hr.mono (by decide)) (by rfl) pass0 (pa_cons (pv 2) pa_nil)))
      (pss_cons (ps_set (i := 7) sc_law.nd rfl (.inl rfl) (pe_lst (pa_cons (pe_fn G__law_told (hr.mono (by decide)) (by rfl) pass0 (pa_cons pe_int (pa_cons (pv 5) pa_nil))) (pa_cons (pe_fn G__law_told (hr.mono (by decide)) (by rfl) pass0 (pa_cons pe_int (pa_cons (pv 5) pa_nil))) pa_nil))))
      (pss_cons (ps_if (pt_not (pt_val (pe_fn G__law_same (hr.mono (by decide)) (by rfl) pass0 (pa_cons (pv 7) (pa_cons (pe_lst (pa_cons (pe_tup (pa_cons pe_str (pa_cons (pe_callB call_len_seq (by rfl) T.b_len PySem.boot_len (pa_cons (pv 6) pa_nil)) pa_nil))) (pa_cons (pe_tup (pa_cons pe_str (pa_cons (pv 6) pa_nil))) pa_nil))) pa_nil))))) (pss_one (ps_ret pe_bl)) pss_nil)
      (pss_cons (ps_expr (pe_bm PySem.F.plainAttrs_list PySem.F.slot_list_append PySem.F.type_list_append mt_append (pe_ix ix_list (pe_fn G_cut (hr.mono (by decide)) (by rfl) (passes_call (W := fun _ _ _ _ => False) takes0 (fun _ _ _ _ h => h)) (pa_cons (pv 5) pa_nil)) pe_int (fun _ _ => rfl)) (pa_cons (pe_tup (pa_cons pe_str pa_nil)) pa_nil)))
      (pss_one (ps_ret (pe_and (pe_fn G__law_same (hr.mono (by decide)) (by rfl) pass0 (pa_cons (pv 5) (pa_cons (pv 2) pa_nil))) (pe_one (pe_fn G__law_same (hr.mono (by decide)) (by rfl) pass0 (pa_cons (pe_fn G_cut (hr.mono (by decide)) (by rfl) (passes_call (W := fun _ _ _ _ => False) takes0 (fun _ _ _ _ h => h)) (pa_cons (pv 5) pa_nil)) (pa_cons (pv 6) pa_nil)))))))))))))))))))), ?_⟩
    refine ⟨_, rfl, a, ns, rfl, hn, few, fun b c H1 S1 nb nc hb => ?_⟩
    refine ⟨_, rfl, by show 0 ≤ sizeLine; decide, fun g ng => ?_⟩
    have Sg := Same.new (o := .lst []) ng
    refine ⟨b, c, g, rfl, hb.same Sg, (hb.tr ng).2, upd_same, fun l xs H2 hl ho hlen => ?_⟩
    obtain ⟨os, hos⟩ := tv_ex ho
    have el := hos.len
    clear Sg ng hb nb nc S1 hn few
    -- no lists
    refine ⟨by show 0 ≤ sizeLine; decide, fun e1 n1 => ?_⟩
    have S1 := Same.new (o := .tup []) n1
    refine fun e2 n2 => ?_
    have S2 := Same.new (o := .dK []) n2
    refine ⟨_, rfl, l, xs, rfl, .inl ⟨SqL.of ((S1.trans S2) _ _ hl), fun e3 n3 => ?_⟩⟩
    have S3 := Same.new (o := .tup xs) n3
    refine ⟨by show 6 ≤ sizeLine; decide, fun B nB => ?_⟩
    have S4 := Same.new (o := .tup [V.non, V.ref e1, V.str "begin", V.ref e2, V.int 0, V.ref e3]) nB
    have all : ∀ y ∈ [V.non, V.ref e1, V.str "begin", V.ref e2, V.int 0, V.ref e3], NotL K (upd (upd (upd (upd H2 e1 (.tup [])) e2 (.dK [])) e3 (.tup xs)) B (.tup [V.non, V.ref e1, V.str "begin", V.ref e2, V.int 0, V.ref e3])) y := by
      intro y hy
      simp only [List.mem_cons, List.not_mem_nil, or_false] at hy
      rcases hy with rfl | rfl | rfl | rfl | rfl | rfl
      · exact .non
      · exact .tup (SqT.of (((S2.trans S3).trans S4) _ _ upd_same))
      · exact .str _
      · exact .dic ((S3.trans S4) _ _ upd_same)
      · exact .int _
      · exact .tup (SqT.of (S4 _ _ upd_same))
    have hB : upd (upd (upd (upd H2 e1 (.tup [])) e2 (.dK [])) e3 (.tup xs)) B (.tup [V.non, V.ref e1, V.str "begin", V.ref e2, V.int 0, V.ref e3]) B = some (.tup [V.non, V.ref e1, V.str "begin", V.ref e2, V.int 0, V.ref e3]) := upd_same
    have S14 : Same H2 (upd (upd (upd (upd H2 e1 (.tup [])) e2 (.dK [])) e3 (.tup xs)) B (.tup [V.non, V.ref e1, V.str "begin", V.ref e2, V.int 0, V.ref e3])) := ((S1.trans S2).trans S3).trans S4
    generalize upd (upd (upd (upd H2 e1 (.tup [])) e2 (.dK [])) e3 (.tup xs)) B (.tup [V.non, V.ref e1, V.str "begin", V.ref e2, V.int 0, V.ref e3]) = H3 at all hB S14
    generalize [V.non, V.ref e1, V.str "begin", V.ref e2, V.int 0, V.ref e3] = ys at all hB
    clear S1 S2 S3 S4
    refine ⟨B, rfl, ⟨_, SqT.of hB⟩, ?_⟩
    refine for_tup (K := K) (a := B) (xs := ys) (fun i σ H' => ∃ (v3 : Option V), σ = [some (.ref a), some (.ref b), some (.ref l), v3, none, none, none, none, none] ∧ Same H3 H') ⟨none, rfl, Same.refl _⟩ (fun i σ H' _ y => ?_) (fun i x σ H4 hi y => ?_) (fun σ H4 y => ?_)
    · obtain ⟨_, _, S⟩ := y
      exact sameT S (SqT.of hB)
    · obtain ⟨v3, rfl, S⟩ := y
      have hx : NotL K H4 x := (all x (List.mem_of_getElem? hi)).same S
      refine ⟨2, rfl, by omega, by omega, fun D nD => ?_⟩
      refine lc_range (lo := 0) (n := 2) (fun i H' => ∃ as : List Addr, Same H4 H' ∧ H' D = some (.lst (as.map V.ref)) ∧ as.length = i ∧ ∀ a ∈ as, SqT K H' a [.str "refused", .int (-1)]) ⟨[], Same.new nD, upd_same, rfl, by simp⟩ (fun i H' hi q => ?_) (fun H' q => ?_)
      · obtain ⟨as, S5, hD, la, has⟩ := q
        refine ⟨rfl, ?_⟩
        rw [Int.zero_add]
        refine tYes_ ?_
        refine iteT ?_
        refine ⟨_, rfl, _, rfl, i, x, none, rfl, hx.same S5, by decide, .inl ⟨-1, rfl, by omega, fun a0 H6 S6 n6 ha6 => ?_⟩⟩
        refine ⟨_, S6 _ _ hD, small1000 (by rw [List.length_map]; omega), as ++ [a0], fun b o hb => ?_, ?_, by simp [la], fun a1 ha1 => ?_⟩
        · rw [upd_ne (ne_of_none hb nD)]
          exact S6 _ _ (S5 _ _ hb)
        · rw [upd_same, List.map_append]
          rfl
        · rcases List.mem_append.mp ha1 with z | z
          · exact updT (S6 _ _ hD) (sameT S6 (has a1 z))
          · rw [List.mem_singleton.mp z]
            exact updT (S6 _ _ hD) ha6
      · obtain ⟨as, S5, hD, la, has⟩ := q
        refine ⟨1, rfl, by show 2 ≤ sizeLine; decide, fun t nt => ?_⟩
        have A1 := Same.new (o := .tup [V.str "refused", V.int (-1)]) nt
        refine ⟨by show 1 ≤ sizeLine; decide, fun e ne => ?_⟩
        have A2 := Same.new (o := .lst [V.ref t]) ne
        refine ⟨e, 2, _, rfl, rfl, upd_same, by decide, by decide, by show 1 * 2 ≤ sizeLine; decide, fun p np => ?_⟩
        have A3 := Same.new (o := .lst (List.replicate (2 : Int).toNat [V.ref t]).flatten) np
        have SA := (A1.trans A2).trans A3
        refine ⟨_, _, rfl, (sameRefs (as := as) (SA _ _ hD) (by rw [la]; exact upd_same) (by omega) (fun a ha => sameT SA (has a ha)) (SqT.of ((A2.trans A3) _ _ upd_same))).to (by decide), fun H6 S6 => ⟨_, rfl, iteF ?_⟩⟩
        exact ⟨_, rfl, ((S.trans S5).trans SA).trans S6⟩
    · obtain ⟨v3, rfl, S⟩ := y
      have S24 := S14.trans S
      clear S S14 all hB
      -- no tokens
      refine ⟨4, rfl, by omega, by omega, fun D nD => ?_⟩
      refine lc_range (lo := 0) (n := 4) (fun i H' => ∃ as : List Addr, Same H4 H' ∧ H' D = some (.lst (as.map V.ref)) ∧ as.length = i ∧ ∀ a ∈ as, SqT K H' a [.str "refused", .int 0]) ⟨[], Same.new nD, upd_same, rfl, by simp⟩ (fun i H' hi q => ?_) (fun H' q => ?_)
      · obtain ⟨as, S5, hD, la, has⟩ := q
        refine ⟨rfl, ?_⟩
        rw [Int.zero_add]
        refine tYes_ ?_
        refine iteT ?_
        refine ⟨_, rfl, by show 0 ≤ sizeLine; decide, fun e ne => ?_⟩
        have Se := Same.new (o := .lst []) ne
        refine ⟨i, .ref e, some [], rfl, ⟨e, [], rfl, SqL.of upd_same, .nil⟩, by decide, .inl ⟨0, rfl, by omega, fun a0 H6 S6 n6 ha6 => ?_⟩⟩
        have hD6 := S6 _ _ (Se _ _ hD)
        refine ⟨_, hD6, small1000 (by rw [List.length_map]; omega), as ++ [a0], fun b o hb => ?_, ?_, by simp [la], fun a1 ha1 => ?_⟩
        · rw [upd_ne (ne_of_none hb nD)]
          exact S6 _ _ (Se _ _ (S5 _ _ hb))
        · rw [upd_same, List.map_append]
          rfl
        · rcases List.mem_append.mp ha1 with z | z
          · exact updT hD6 (sameT (Se.trans S6) (has a1 z))
          · rw [List.mem_singleton.mp z]
            exact updT hD6 ha6
      · obtain ⟨as, S5, hD, la, has⟩ := q
        refine ⟨by show 2 ≤ sizeLine; decide, fun t nt => ?_⟩
        have A1 := Same.new (o := .tup [V.str "refused", V.int 0]) nt
        refine ⟨by show 1 ≤ sizeLine; decide, fun e ne => ?_⟩
        have A2 := Same.new (o := .lst [V.ref t]) ne
        refine ⟨e, 4, _, rfl, rfl, upd_same, by decide, by decide, by show 1 * 4 ≤ sizeLine; decide, fun p np => ?_⟩
        have A3 := Same.new (o := .lst (List.replicate (4 : Int).toNat [V.ref t]).flatten) np
        have SA := (A1.trans A2).trans A3
        refine ⟨_, _, rfl, (sameRefs (as := as) (SA _ _ hD) (by rw [la]; exact upd_same) (by omega) (fun a ha => sameT SA (has a ha)) (SqT.of ((A2.trans A3) _ _ upd_same))).to (by decide), fun H6 S6 => ⟨_, rfl, iteF ?_⟩⟩
        have S26 := S24.trans ((S5.trans SA).trans S6)
        clear hD has SA A1 A2 A3 S5 S6 la nt ne np
        -- no programs
        refine ⟨_, rfl, l, xs, rfl, .inl (SqL.of (S26 _ _ hl)), fun e5 n5 => ?_⟩
        have A1 := Same.new (o := .lst xs) n5
        refine ⟨_, rfl, fun H7 S7 => ⟨_, rfl, iteF ?_⟩⟩
        refine ⟨_, rfl, fun H8 S8 => ⟨_, rfl, iteF ?_⟩⟩
        have S28 := ((S26.trans A1).trans S7).trans S8
        clear A1 S7 S8 S26
        -- the fault
        have hos8 := hos.imp (fun _ _ _ z => TV.same S28 z)
        have hl8 := S28 _ _ hl
        refine ⟨_, rfl, l, xs, os, rfl, SqL.of hl8, hos8, by omega, fun H9 S9 => ?_⟩
        refine ⟨_, rfl, l, xs, rfl, .inl (SqL.of (S9 _ _ hl8)), fun hh nh => ?_⟩
        have A1 := Same.new (o := .lst xs) nh
        have hh10 : upd H9 hh (.lst xs) hh = some (.lst xs) := upd_same
        have S10 := S9.trans A1
        have hos10 := hos8.imp (fun _ _ _ z => TV.same S10 z)
        have hl10 := S10 _ _ hl8
        have odd10 : ∀ y ∈ xs, OddV K (upd H9 hh (.lst xs)) y := fun y hy => (ho y hy).same (S28.trans S10)
        generalize upd H9 hh (.lst xs) = H10 at hh10 hos10 hl10 odd10
        clear A1 S9 S10 nh hos8 hl8 S28 ho hos hl
        cases hg : gone s0 0 os with
        | some i =>
          have hf : flaw (some os) = some (i : Int) := by
            cases os with
            | nil => cases hg
            | cons o r => show (gone s0 0 (o :: r)).map _ = _; rw [hg]; rfl
          refine ⟨_, rfl, rfl, _, rfl, iteT' (by show (!decide (V.int (i : Nat) = V.non)) = true; rw [decide_eq_false (by intro z; cases z)]; rfl) ?_⟩
          refine ⟨5, rfl, by omega, by omega, ?_⟩
          refine for_range (lo := 0) (n := 5) (fun j σ H' => ∃ v8 : Option V, σ = [some (.ref a), some (.ref b), some (.ref l), v3, some (.int (i : Nat)), some (.ref hh), none, none, v8] ∧ Same H10 H') ⟨none, rfl, Same.refl _⟩ (fun j σ H' hj q => ?_) (fun σ H' q => ?_)
          · obtain ⟨v8, rfl, S⟩ := q
            rw [Int.zero_add]
            refine ⟨_, rfl, _, rfl, j, .ref hh, some os, rfl, ⟨hh, xs, rfl, SqL.of (S _ _ hh10), hos10.imp fun _ _ _ z => TV.same S z⟩, by show os.length ≤ 450; omega, .inl ⟨i, hf, hj, fun a0 H6 S6 n6 ha6 => ?_⟩⟩
            refine ⟨_, rfl, by show 2 ≤ sizeLine; decide, fun t nt => ?_⟩
            have A2 := Same.new (o := .tup [V.str "refused", V.int (i : Nat)]) nt
            refine ⟨_, _, rfl, (sameRef (sameT A2 ha6) (SqT.of upd_same)).to (by decide), fun H7 S7 => ⟨_, rfl, iteF ?_⟩⟩
            exact ⟨_, rfl, ((S.trans S6).trans A2).trans S7⟩
          · obtain ⟨v8, rfl, S⟩ := q
            refine ⟨_, rfl, _, rfl, 1, by decide, .inl ⟨hh, l, xs, xs, rfl, rfl, SqL.of (S _ _ hh10), SqL.of (S _ _ hl10), eq_own fun y hy => (odd10 y hy).same S⟩, ?_⟩
            exact k _
        | none =>
          refine ⟨_, rfl, rfl, _, rfl, iteF' (by rfl) ?_⟩
          refine ⟨_, rfl, l, _, rfl, .inl (SqL.of hl10), rfl, _, rfl, ?_⟩
          by_cases ne : os = []
          · have : xs.length = 0 := by rw [el, ne]; rfl
            refine iteT' (decide_eq_true (by rw [this]; rfl)) ?_
            exact k _
          refine iteF' (decide_eq_false fun z => ?_) ?_
          · injection z with z
            have : 0 < os.length := List.length_pos_iff.mpr ne
            omega
          have hf : flaw (some os) = none := by
            cases os with
            | nil => exact absurd rfl ne
            | cons o r => show (gone s0 0 (o :: r)).map _ = _; rw [hg]; rfl
          obtain ⟨t, r, q1, q2, q3, q4⟩ := gone_of ne hf
          have htk : All2 (TokAt K H10) xs (t :: r) := tv_some (q2 ▸ hos10)
          have lts : (t :: r).length = xs.length := htk.len.symm
          have lts2 : (t :: r).length ≤ 130 := by omega
          have eT : cutAll ((osL (some os)).filterMap id) = cutAll (t :: r) := by show cutAll (os.filterMap id) = _; rw [q1]
          have fT := fold_few (t :: r)
          have lT : (cutAll (t :: r)).length ≤ 130 := Nat.le_trans fT.1 lts2
          have lE : ∀ u ∈ cutAll (t :: r), u.length ≤ 1000 := fun u hu => Nat.le_trans (fT.2 u hu) (by omega)
          have nT : cutAll (t :: r) ≠ [] := fold_ne _ (by simp)
          have hist : ∀ H', Same H10 H' → HistV K H' (.ref hh) (some os) := fun H' S => ⟨hh, xs, rfl, SqL.of (S _ _ hh10), hos10.imp fun _ _ _ z => TV.same S z⟩
          have lfew : (osL (some os)).length ≤ 450 := by show os.length ≤ 450; omega
          refine ⟨_, rfl, l, xs, t, r, rfl, SqL.of hl10, htk, q3, by omega, fun H11 p rs S11 fr hp => ?_⟩
          refine ⟨_, rfl, 0, .ref hh, some os, rfl, hist _ S11, lfew, .inr (.inl ⟨hf, rfl, fun a0 H12 S12 n0 ha0 => ?_⟩)⟩
          refine ⟨_, rfl, 1, .ref hh, some os, rfl, hist _ (S11.trans S12), lfew, .inr (.inr ⟨hf, rfl, fun a1 p1 rs1 H13 S13 n1 fr1 hp1 ha1 => ?_⟩)⟩
          rw [eT] at ha0 hp1
          refine ⟨by show 2 ≤ sizeLine; decide, fun D nD => ?_⟩
          have A1 := Same.new (o := .lst [V.ref a0, V.ref a1]) nD
          have hpA := (((hp.same S12).same S13).same A1)
          refine ⟨_, rfl, _, rfl, p, _, rfl, .inl (SqL.of hpA.1), by show 2 ≤ sizeLine; decide, fun t1 m1 => ?_⟩
          have A2 := Same.new (o := .tup [V.str "told", V.int ((rs.map V.ref).length : Nat)]) m1
          refine ⟨_, rfl, by show 2 ≤ sizeLine; decide, fun t2 m2 => ?_⟩
          have A3 := Same.new (o := .tup [V.str "told", V.ref p]) m2
          refine ⟨by show 2 ≤ sizeLine; decide, fun e me => ?_⟩
          have A4 := Same.new (o := .lst [V.ref t1, V.ref t2]) me
          have A24 := (A2.trans A3).trans A4
          have lrs := hp.2.len
          refine ⟨_, _, rfl, ?_, fun H14 S14 => ⟨_, rfl, iteF ?_⟩⟩
          · refine .lst (SqL.of (A24 _ _ upd_same)) (SqL.of upd_same) (by show 2 ≤ 1000; decide) rfl fun j x y hx hy => ?_
            match j with
            | 0 =>
              cases hx
              cases hy
              refine .tup (sameT ((S13.trans A1).trans A24) ha0) (SqT.of ((A3.trans A4) _ _ upd_same)) (by show 2 ≤ 1000; decide) rfl fun j x y hx hy => ?_
              match j with
              | 0 => cases hx; cases hy; exact .str _
              | 1 =>
                cases hx
                cases hy
                rw [List.length_map, lrs]
                exact .int _
              | j + 2 => simp at hx
            | 1 =>
              cases hx
              cases hy
              refine .tup (sameT (A1.trans A24) ha1) (SqT.of (A4 _ _ upd_same)) (by show 2 ≤ 1000; decide) rfl fun j x y hx hy => ?_
              match j with
              | 0 => cases hx; cases hy; exact .str _
              | 1 =>
                cases hx
                cases hy
                exact sameTurns ((hp1.same A1).same A24) (hpA.same A24) (by omega) lE
              | j + 2 => simp at hx
            | j + 2 => simp at hx
          have SS := (((S11.trans S12).trans S13).trans A1).trans (A24.trans S14)
          have hp14 := (hpA.same A24).same S14
          clear A1 A2 A3 A4 A24 hpA hp1 ha0 ha1 n1 n0 S12 S13 S14 nD m1 m2 me fr1
          -- what is done to the turns told
          refine ⟨_, rfl, .ref hh, some os, rfl, hist _ SS, lfew, fun _ H15 p2 rs2 S15 fr2 hp2 => ?_, fun j hj => (by rw [hf] at hj; cases hj)⟩
          rw [eT] at hp2
          obtain ⟨r0, hr0⟩ : ∃ r0, rs2[0]? = some r0 := by
            have e1 := hp2.2.len
            have e2 : 0 < (cutAll (t :: r)).length := List.length_pos_iff.mpr nT
            exact ⟨rs2[0]'(by omega), List.getElem?_eq_getElem _⟩
          obtain ⟨turn0, ht0, x0, hx0, htk0⟩ := hp2.2.get hr0
          have l0 := lE turn0 (List.mem_of_getElem? ht0)
          have el0 := htk0.len
          have nr0 := fr2.2.1 r0 (List.mem_of_getElem? hr0)
          refine ⟨p2, _, _, .ref r0, rfl, rfl, SqL.of hp2.1, (show atI (rs2.map V.ref) ((0 : Nat) : Int) = some (V.ref r0) from atI_nat (by rw [List.getElem?_map, hr0]; rfl)), Or.inl ⟨rfl, _, SqL.of hx0⟩, by show 1 ≤ sizeLine; decide, fun t1 n1 => ⟨r0, x0, _, rfl, rfl, Same.new n1 _ _ hx0, small1000 (by omega), ?_⟩⟩
          have S16 : Same _ (upd (upd H15 t1 (.tup [V.str "set"])) r0 (.lst (x0 ++ [V.ref t1]))) := stays_new (S15.trans (Same.new (o := .tup [V.str "set"]) n1)) nr0 (Only.upd (b := r0)).bs
          have S17 := SS.trans S16
          have hp16 := hp14.same S16
          generalize upd (upd H15 t1 (.tup [V.str "set"])) r0 (.lst (x0 ++ [V.ref t1])) = H16 at S16 S17 hp16 ⊢
          have htk16 := htk.imp fun _ _ _ z => TokAt.same S17 z
          refine ⟨_, rfl, _, rfl, _, _, rfl, (sameToks (n := 3) (SqL.of (S17 _ _ hh10)) (SqL.of (S17 _ _ hl10)) htk16 htk16 (by omega)), fun H18 S18 => ?_⟩
          refine ⟨_, rfl, iteT ?_⟩
          refine ⟨_, rfl, .ref hh, some os, rfl, hist _ (S17.trans S18), lfew, fun _ H19 p3 rs3 S19 fr3 hp3 => ?_, fun j hj => (by rw [hf] at hj; cases hj)⟩
          rw [eT] at hp3
          have hp19 := (hp16.same S18).same S19
          exact ⟨_, rfl, _, _, rfl, (sameTurns (n := 2) hp3 hp19 (by omega) lE), fun H20 S20 => k _⟩
end
end K13

set_option Elab.async false
set_option linter.all false
set_option maxRecDepth 100000
set_option maxHeartbeats 0
namespace K13
open PySem PySem.Spec PyProof.Rows L2
/-! ### the head: facts by names, the run -/
abbrev sIA : Stmt := inClass (top 6) 0
abbrev sIH : Stmt := inClass (top 5) 0
def dIA : He.DefD := ⟨("InvalidArgument", some "__init__"), "__init__", "InvalidArgument.__init__", defArgs sIA, defBody sIA, defScope sIA, [], []⟩
def dIH : He.DefD := ⟨("InvalidHistory", some "__init__"), "__init__", "InvalidHistory.__init__", defArgs sIH, defBody sIH, defScope sIH, [], []⟩
def d_is_word : He.DefD := ⟨("is_word", none), "is_word", "is_word", defArgs s_is_word, defBody s_is_word, defScope s_is_word, [], []⟩
def d_is_integer : He.DefD := ⟨("is_integer", none), "is_integer", "is_integer", defArgs s_is_integer, defBody s_is_integer, defScope s_is_integer, [], []⟩
def d_are_words : He.DefD := ⟨("are_words", none), "are_words", "are_words", defArgs s_are_words, defBody s_are_words, defScope s_are_words, [], []⟩
def d_copied : He.DefD := ⟨("copied", none), "copied", "copied", defArgs s_copied, defBody s_copied, defScope s_copied, [], []⟩
def d_RowCheck___init__ : He.DefD := ⟨("RowCheck", some "__init__"), "__init__", "RowCheck.__init__", defArgs s_RowCheck___init__, defBody s_RowCheck___init__, defScope s_RowCheck___init__, [], []⟩
def d_RowCheck_check_rows : He.DefD := ⟨("RowCheck", some "check_rows"), "check_rows", "RowCheck.check_rows", defArgs s_RowCheck_check_rows, defBody s_RowCheck_check_rows, defScope s_RowCheck_check_rows, [], []⟩
def d_RowCheck_check_list : He.DefD := ⟨("RowCheck", some "check_list"), "check_list", "RowCheck.check_list", defArgs s_RowCheck_check_list, defBody s_RowCheck_check_list, defScope s_RowCheck_check_list, [], []⟩
def d_Plan___init__ : He.DefD := ⟨("Plan", some "__init__"), "__init__", "Plan.__init__", defArgs s_Plan___init__, defBody s_Plan___init__, defScope s_Plan___init__, [], []⟩
def d_Plan_lay_list : He.DefD := ⟨("Plan", some "lay_list"), "lay_list", "Plan.lay_list", defArgs s_Plan_lay_list, defBody s_Plan_lay_list, defScope s_Plan_lay_list, [], []⟩
def d_Draft___init__ : He.DefD := ⟨("Draft", some "__init__"), "__init__", "Draft.__init__", defArgs s_Draft___init__, defBody s_Draft___init__, defScope s_Draft___init__, [], []⟩
def d_checked_table : He.DefD := ⟨("checked_table", none), "checked_table", "checked_table", defArgs s_checked_table, defBody s_checked_table, defScope s_checked_table, [], []⟩
def d_named_in : He.DefD := ⟨("named_in", none), "named_in", "named_in", defArgs s_named_in, defBody s_named_in, defScope s_named_in, [], []⟩
def d_check_sizes : He.DefD := ⟨("check_sizes", none), "check_sizes", "check_sizes", defArgs s_check_sizes, defBody s_check_sizes, defScope s_check_sizes, [], []⟩
def d_Program___init__ : He.DefD := ⟨("Program", some "__init__"), "__init__", "Program.__init__", defArgs s_Program___init__, defBody s_Program___init__, defScope s_Program___init__, [], []⟩
def d_gone_over : He.DefD := ⟨("gone_over", none), "gone_over", "gone_over", defArgs s_gone_over, defBody s_gone_over, defScope s_gone_over, [], []⟩
def d_turns_in : He.DefD := ⟨("turns_in", none), "turns_in", "turns_in", defArgs s_turns_in, defBody s_turns_in, defScope s_turns_in, [], []⟩
def d_is_outer : He.DefD := ⟨("is_outer", none), "is_outer", "is_outer", defArgs s_is_outer, defBody s_is_outer, defScope s_is_outer, [], []⟩
def d_has_form : He.DefD := ⟨("has_form", none), "has_form", "has_form", defArgs s_has_form, defBody s_has_form, defScope s_has_form, [], []⟩
def d_fits : He.DefD := ⟨("fits", none), "fits", "fits", defArgs s_fits, defBody s_fits, defScope s_fits, [], []⟩
def d_check : He.DefD := ⟨("check", none), "check", "check", defArgs s_check, defBody s_check, defScope s_check, [], []⟩
def d_cut : He.DefD := ⟨("cut", none), "cut", "cut", defArgs s_cut, defBody s_cut, defScope s_cut, [], []⟩
def d_Reader___init__ : He.DefD := ⟨("Reader", some "__init__"), "__init__", "Reader.__init__", defArgs s_Reader___init__, defBody s_Reader___init__, defScope s_Reader___init__, [], []⟩
def d_Reader_read_turns : He.DefD := ⟨("Reader", some "read_turns"), "read_turns", "Reader.read_turns", defArgs s_Reader_read_turns, defBody s_Reader_read_turns, defScope s_Reader_read_turns, [], []⟩
def d_reader_of : He.DefD := ⟨("reader_of", none), "reader_of", "reader_of", defArgs s_reader_of, defBody s_reader_of, defScope s_reader_of, [], []⟩
def d_read : He.DefD := ⟨("read", none), "read", "read", defArgs s_read, defBody s_read, defScope s_read, [], []⟩
def d_good_turns : He.DefD := ⟨("good_turns", none), "good_turns", "good_turns", defArgs s_good_turns, defBody s_good_turns, defScope s_good_turns, [], []⟩
def d_resume : He.DefD := ⟨("resume", none), "resume", "resume", defArgs s_resume, defBody s_resume, defScope s_resume, [], []⟩
def d__law_bag : He.DefD := ⟨("_law_bag", none), "_law_bag", "_law_bag", defArgs s__law_bag, defBody s__law_bag, defScope s__law_bag, [], []⟩
def d__law_draw : He.DefD := ⟨("_law_draw", none), "_law_draw", "_law_draw", defArgs s__law_draw, defBody s__law_draw, defScope s__law_draw, [], []⟩
def d__law_one : He.DefD := ⟨("_law_one", none), "_law_one", "_law_one", defArgs s__law_one, defBody s__law_one, defScope s__law_one, [], []⟩
def d__law_words : He.DefD := ⟨("_law_words", none), "_law_words", "_law_words", defArgs s__law_words, defBody s__law_words, defScope s__law_words, [], []⟩
def d__law_same : He.DefD := ⟨("_law_same", none), "_law_same", "_law_same", defArgs s__law_same, defBody s__law_same, defScope s__law_same, [], []⟩
def d__law_word : He.DefD := ⟨("_law_word", none), "_law_word", "_law_word", defArgs s__law_word, defBody s__law_word, defScope s__law_word, [], []⟩
def d__law_token : He.DefD := ⟨("_law_token", none), "_law_token", "_law_token", defArgs s__law_token, defBody s__law_token, defScope s__law_token, [], []⟩
def d__law_odd : He.DefD := ⟨("_law_odd", none), "_law_odd", "_law_odd", defArgs s__law_odd, defBody s__law_odd, defScope s__law_odd, [], []⟩
def d__law_fits : He.DefD := ⟨("_law_fits", none), "_law_fits", "_law_fits", defArgs s__law_fits, defBody s__law_fits, defScope s__law_fits, [], []⟩
def d__law_enter : He.DefD := ⟨("_law_enter", none), "_law_enter", "_law_enter", defArgs s__law_enter, defBody s__law_enter, defScope s__law_enter, [], []⟩
def d__law_fault : He.DefD := ⟨("_law_fault", none), "_law_fault", "_law_fault", defArgs s__law_fault, defBody s__law_fault, defScope s__law_fault, [], []⟩
def d__law_told : He.DefD := ⟨("_law_told", none), "_law_told", "_law_told", defArgs s__law_told, defBody s__law_told, defScope s__law_told, [], []⟩
def d__law_history : He.DefD := ⟨("_law_history", none), "_law_history", "_law_history", defArgs s__law_history, defBody s__law_history, defScope s__law_history, [], []⟩
def d__law_turns : He.DefD := ⟨("_law_turns", none), "_law_turns", "_law_turns", defArgs s__law_turns, defBody s__law_turns, defScope s__law_turns, [], []⟩
def d__law_no_program : He.DefD := ⟨("_law_no_program", none), "_law_no_program", "_law_no_program", defArgs s__law_no_program, defBody s__law_no_program, defScope s__law_no_program, [], []⟩
def d_law : He.DefD := ⟨("law", none), "law", "law", defArgs s_law, defBody s_law, defScope s_law, [], []⟩
def fn : List He.DefD := [dIA, dIH, d_is_word, d_is_integer, d_are_words, d_copied, d_RowCheck___init__, d_RowCheck_check_rows, d_RowCheck_check_list, d_Plan___init__, d_Plan_lay_list, d_Draft___init__, d_checked_table, d_named_in, d_check_sizes, d_Program___init__, d_gone_over, d_turns_in, d_is_outer, d_has_form] ++ [d_fits, d_check, d_cut, d_Reader___init__, d_Reader_read_turns, d_reader_of, d_read, d_good_turns, d_resume, d__law_bag, d__law_draw, d__law_one, d__law_words, d__law_same, d__law_word, d__law_token, d__law_odd, d__law_fits, d__law_enter, d__law_fault, d__law_told, d__law_history, d__law_turns, d__law_no_program, d_law]
def fa : List He.Fa := ([.glo "InvalidArgument", .glo "InvalidHistory", .glo "RunError", .glo "InputError", .glo "Program", .glo "Draft", .glo "RowCheck", .glo "Plan", .glo "Reader", .glo "LAST_WORDS", .glo "OUTER_FORMS", .glo "COMMAND_FORMS", .glo "STARTED", .glo "NAMED", .glo "is_word", .glo "is_integer", .glo "are_words", .glo "copied", .glo "checked_table", .glo "named_in"] : List He.Fa) ++ ([.glo "check_sizes", .glo "gone_over", .glo "turns_in", .glo "is_outer", .glo "has_form", .glo "fits", .glo "check", .glo "cut", .glo "reader_of", .glo "read", .glo "good_turns", .glo "resume", .glo "_law_bag", .glo "_law_draw", .glo "_law_one", .glo "_law_words", .glo "_law_same", .glo "_law_word", .glo "_law_token", .glo "_law_odd"] : List He.Fa) ++ ([.glo "_law_fits", .glo "_law_enter", .glo "_law_fault", .glo "_law_told", .glo "_law_history", .glo "_law_turns", .glo "_law_no_program", .glo "law", .free "isinstance", .free "str", .free "int", .free "bool", .free "tuple", .free "list", .free "dict", .free "len", .free "all", .free "any", .free "zip", .free "enumerate"] : List He.Fa) ++ ([.free "range", .free "sorted", .free "set", .noat "InvalidArgument" "part", .noat "InvalidHistory" "at", .int "LONGEST_WORD" (8), .int "FINISH" (-2), .int "MOST_ASKS" (6), .int "MOST_SIGNALS" (3), .int "MOST_INPUTS" (3), .int "MOST_ROWS" (60), .int "MOST_LABELS" (6), .int "MOST_SLOTS" (4), .int "MOST_GATES" (8), .exm "InvalidArgument" "InvalidArgument" true, .exm "InvalidHistory" "InvalidHistory" true, .cls "RowCheck", .mkr "RowCheck", .noat "RowCheck" "ask_table", .noat "RowCheck" "signal_table"] : List He.Fa) ++ ([.noat "RowCheck" "with_edits", .noat "RowCheck" "seen_edits", .noat "RowCheck" "seen_gates", .cls "Plan", .mkr "Plan", .noat "Plan" "flat", .noat "Plan" "places", .noat "Plan" "behind", .noat "Plan" "entries", .noat "Plan" "sides", .noat "Plan" "starts", .noat "Plan" "numbers", .cls "Program", .mkr "Program", .noat "Program" "ask_table", .noat "Program" "signal_table", .noat "Program" "input_words", .noat "Program" "row_list", .noat "Program" "plan", .noat "Program" "name_table"] : List He.Fa) ++ ([.cls "Reader", .mkr "Reader", .noat "Reader" "program", .noat "Reader" "moment", .noat "Reader" "turns_read", .noat "Reader" "tokens_read", .noat "Reader" "breach", .meth "RowCheck" "check_rows", .meth "RowCheck" "check_list", .meth "Plan" "lay_list", .meth "Reader" "read_turns"] : List He.Fa)
def ts : List He.Tab := [(fun K => He.ga K "OUTER_FORMS", ["begin", "answer", "rang", "signal"]), (fun K => He.ga K "COMMAND_FORMS", ["asked", "set", "dropped", "noted", "marked", "ended", "anew"]), (fun K => He.ga K "STARTED", ["asked", "set"]), (fun K => He.ga K "NAMED", ["answer", "rang", "dropped"])]
def tupV (K : PySem.W.Frag) (v : Value) (vs : List V) : Bool := match v with
  | .ref p => match K.lookup p with
    | some ⟨.type c, _, .seq its _, _⟩ => decide (c = "tuple") && (decide (its.size ≤ sizeLine) && He.relAll vs its.toList)
    | _ => false
  | _ => false
theorem tupV_ok {K : PySem.W.Frag} {v : Value} {vs : List V} (h : tupV K v vs = true) : ∃ p, v = .ref p ∧ ∀ H, SqT K H p vs := by
  unfold tupV at h
  cases v with
  | ref p =>
    refine ⟨p, rfl, fun H => ?_⟩
    cases q : K.lookup p with
    | none =>
      simp only [q] at h
      cases h
    | some o =>
      obtain ⟨oc, od, dt, osl⟩ := o
      simp only [q] at h
      cases oc with
      | type c =>
        cases dt with
        | seq its n =>
          obtain ⟨h1, h2⟩ := He.ba (show (decide (c = "tuple") && (decide (its.size ≤ sizeLine) && He.relAll vs its.toList)) = true from h)
          obtain ⟨h3, h4⟩ := He.ba h2
          exact .inr ⟨_, its, n, q, congrArg Value.type (of_decide_eq_true h1), rfl, of_decide_eq_true h3, He.relAll_ok h4⟩
        | _ => cases h
      | _ => cases dt <;> cases h
  | _ => cases h
def hasT (K : PySem.W.Frag) (d : Addr) (q : Str × List V) : Bool := match PySem.W.nsIn K d q.1 with
  | some (some v) => tupV K v q.2
  | _ => false
theorem hasT_ok {K : PySem.W.Frag} {d : Addr} {x : Str} {vs : List V} (h : hasT K d (x, vs) = true) : ∃ p, PySem.W.nsIn K d x = some (some (.ref p)) ∧ ∀ H, SqT K H p vs := by
  unfold hasT at h
  split at h
  · rename_i v e
    obtain ⟨p, rfl, q⟩ := tupV_ok h
    exact ⟨p, e, q⟩
  · cases h
def hasS (K : PySem.W.Frag) (d : Addr) (q : Str × Str) : Bool := match PySem.W.nsIn K d q.1 with
  | some (some (.str y _)) => decide (y = q.2)
  | _ => false
theorem hasS_ok {K : PySem.W.Frag} {d : Addr} {x z : Str} (h : hasS K d (x, z) = true) : ∃ u, PySem.W.nsIn K d x = some (some u) ∧ RelV (.str z) u := by
  unfold hasS at h
  split at h
  · rename_i y t e
    have := of_decide_eq_true h
    subst this
    exact ⟨_, e, ⟨_, rfl⟩⟩
  · cases h
def noK (K : PySem.W.Frag) (d : Addr) (x : Str) : Bool := He.eqO (PySem.W.nsIn K d x) (some none)
abbrev lW : List V := [.str "word"]
abbrev lN : List V := [.str "number"]
def oT : List (Str × List V) := [("begin", lW), ("answer", [.str "number", .str "word"]), ("rang", lN), ("signal", [.str "word", .str "word"])]
def cTt : List (Str × List V) := [("asked", lW), ("set", []), ("dropped", lN), ("noted", lW), ("marked", lW), ("ended", lW), ("anew", lW)]
def sT : List (Str × Str) := [("asked", "ask"), ("set", "timer")]
def nT : List (Str × List V) := [("answer", [.str "ask"]), ("rang", [.str "timer"]), ("dropped", [.str "ask", .str "timer"])]
def sNo : List Str := ["begin", "answer", "rang", "signal", "dropped", "noted", "marked", "ended", "anew"]
def nNo : List Str := ["begin", "signal", "asked", "set", "noted", "marked", "ended", "anew"]

def xcB (K : PySem.W.Frag) (D : Addr) : Bool := He.eqO (PySem.W.findIn K (.ref D) "__class__") (some (some (.builtin "object.__class__"))) && (He.eqO (PySem.W.specialIn K (.builtin "object.__class__") "__get__") (some (some (.builtin "getset_descriptor.__get__"))) && (decide (PySem.W.takesIn K (.builtin "object.__class__") = some true) && decide (PySem.W.mroIn K D (.type "object") = some true)))
structure XcF (K : PySem.W.Frag) (D : Addr) : Prop where
  ha : PySem.W.findIn K (.ref D) "__class__" = some (some (.builtin "object.__class__"))
  hn : PySem.W.specialIn K (.builtin "object.__class__") "__get__" = some (some (.builtin "getset_descriptor.__get__"))
  ht : PySem.W.takesIn K (.builtin "object.__class__") = some true
  hm : PySem.W.mroIn K D (.type "object") = some true
theorem xcB_ok {K : PySem.W.Frag} {D : Addr} (h : xcB K D = true) : XcF K D := by
  obtain ⟨h1, h⟩ := He.ba h
  obtain ⟨h2, h⟩ := He.ba h
  obtain ⟨h3, h4⟩ := He.ba h
  exact ⟨He.eqO_ok h1, He.eqO_ok h2, of_decide_eq_true h3, of_decide_eq_true h4⟩
abbrev cPr (K : PySem.W.Frag) : Addr := He.ga K "Program"
abbrev cDr (K : PySem.W.Frag) : Addr := He.ga K "Draft"
def prs : List String := ["NoneType", "list", "str", "int", "dict", "tuple"]
/-- what the defaults of Program(..) are -/
def kwP (K : PySem.W.Frag) : Bool := match K.lookup (He.fAd K ("Program", some "__init__")) with
  | some ⟨_, _, .func fd, _⟩ => (match fd.kwdefaults with
    | .ref D => He.eqO (PySem.W.nsIn K D "asks") (some (some .none)) && (He.eqO (PySem.W.nsIn K D "signals") (some (some .none)) && hasT K D ("inputs", gos))
    | _ => false)
  | _ => false
def drB (K : PySem.W.Frag) : Bool := PySem.W.readsIn K (cDr K) (.type "type") && (He.eqO (PySem.W.specialIn K (.ref (cDr K)) "__getattribute__") (some (some (.builtin "type.__getattribute__"))) &&
  (match PySem.W.findCls K (.ref (cDr K)) (.type "type") "__init__" with
    | some (.val v) => decide (v = .ref (He.fAd K ("Draft", some "__init__")))
    | _ => false))
theorem drB_ok {K : PySem.W.Frag} (h : drB K = true) : ClX.CRead K (cDr K) (.type "type") ∧ PySem.W.findCls K (.ref (cDr K)) (.type "type") "__init__" = some (.val (.ref (He.fAd K ("Draft", some "__init__")))) := by
  obtain ⟨h1, h⟩ := He.ba h
  obtain ⟨h2, h3⟩ := He.ba h
  refine ⟨⟨h1, He.eqO_ok h2⟩, ?_⟩
  split at h3
  · rename_i v e
    rw [e, of_decide_eq_true h3]
  · cases h3
def unkL : List Str := ["gone", "Set"]
def ex (K : PySem.W.Frag) : Bool :=
  oT.all (hasT K (dO K)) && ((cTt.map Prod.fst).all (noK K (dO K)) && (cTt.all (hasT K (dC K)) && (sT.all (hasS K (dS K)) && (sNo.all (noK K (dS K)) && (nT.all (hasT K (dN K)) && (nNo.all (noK K (dN K)) &&
  (tupV K (.ref (He.ga K "LAST_WORDS")) [.str "ended", .str "anew"] && (He.errB K (cIA K) && (He.iniB K (cIA K) && (xfB K (cIA K) && (He.errB K (cIH K) && (He.iniB K (cIH K) &&
  (xfB K (cIH K) && (xcB K (cIH K) && (xcB K (cPr K) && (kwP K && (drB K && (unkL.all (noK K (dO K)) && (unkL.all (noK K (dC K)) &&
  (prs.all (fun t => decide (PySem.W.kitOne K (.type t) (.ref (cPr K)) = some false)) && (decide (PySem.W.kitOne K (.ref (cIH K)) (.ref (cIA K)) = some false) && (decide (PySem.W.kitOne K (.ref (cIH K)) (.ref (cRE K)) = some false) && decide (PySem.W.kitOne K (.ref (cIH K)) (.ref (cIE K)) = some true)))))))))))))))))))))))
structure ExF (K : PySem.W.Frag) : Prop where
  hd : HeadF K
  last : ∀ H, SqT K H (He.ga K "LAST_WORDS") [.str "ended", .str "anew"]
  err : ErrC K (cIA K)
  ini : He.iniB K (cIA K) = true
  xf : XfC K (cIA K)
  errH : ErrC K (cIH K)
  iniH : He.iniB K (cIH K) = true
  xfH : XfC K (cIH K)
  xcH : XcF K (cIH K)
  xcP : XcF K (cPr K)
  kwP_ : kwP K = true
  dr : drB K = true
  kp : ∀ t ∈ prs, PySem.W.kitOne K (.type t) (.ref (cPr K)) = some false
  kIA : PySem.W.kitOne K (.ref (cIH K)) (.ref (cIA K)) = some false
  kRE : PySem.W.kitOne K (.ref (cIH K)) (.ref (cRE K)) = some false
  kIE : PySem.W.kitOne K (.ref (cIH K)) (.ref (cIE K)) = some true
theorem ex_ok {K : PySem.W.Frag} (h : ex K = true) : ExF K := by
  obtain ⟨h1, h⟩ := He.ba h
  obtain ⟨h2, h⟩ := He.ba h
  obtain ⟨h3, h⟩ := He.ba h
  obtain ⟨h4, h⟩ := He.ba h
  obtain ⟨h5, h⟩ := He.ba h
  obtain ⟨h6, h⟩ := He.ba h
  obtain ⟨h7, h⟩ := He.ba h
  obtain ⟨h8, h⟩ := He.ba h
  obtain ⟨h9, h⟩ := He.ba h
  obtain ⟨h10, h⟩ := He.ba h
  obtain ⟨h11, h⟩ := He.ba h
  obtain ⟨h12, h⟩ := He.ba h
  obtain ⟨h13, h⟩ := He.ba h
  obtain ⟨h14, h⟩ := He.ba h
  obtain ⟨h15, h⟩ := He.ba h
  obtain ⟨h16, h⟩ := He.ba h
  obtain ⟨h17, h⟩ := He.ba h
  obtain ⟨h18, h⟩ := He.ba h
  obtain ⟨h19, h⟩ := He.ba h
  obtain ⟨h20, h⟩ := He.ba h
  obtain ⟨h21, h⟩ := He.ba h
  obtain ⟨h22, h⟩ := He.ba h
  obtain ⟨h23, h24⟩ := He.ba h
  have a1 := fun q hq => List.all_eq_true.mp h1 q hq
  have a2 := fun q hq => List.all_eq_true.mp h2 q hq
  have a3 := fun q hq => List.all_eq_true.mp h3 q hq
  have a4 := fun q hq => List.all_eq_true.mp h4 q hq
  have a5 := fun q hq => List.all_eq_true.mp h5 q hq
  have a6 := fun q hq => List.all_eq_true.mp h6 q hq
  have a7 := fun q hq => List.all_eq_true.mp h7 q hq
  refine ⟨⟨fun t ht => ?_, fun t ht => ?_, fun t ht => ?_, fun t k ht => ?_, fun t ht => ?_, fun t n ht => ?_, fun t ht => ?_, fun z hz => ?_⟩, ?_, He.errB_ok h9, h10, xfB_ok h11, He.errB_ok h12, h13, xfB_ok h14, xcB_ok h15, xcB_ok h16, h17, h18, fun t ht => ?_, of_decide_eq_true h22, of_decide_eq_true h23, of_decide_eq_true h24⟩
  · refine hasT_ok (a1 (t.head, fms t) ?_)
    cases t <;> first | (cases ht; done) | simp [oT, fms, Tok.head, Tok.rest, kindV]
  · refine He.eqO_ok (a2 t.head ?_)
    cases t <;> first | (cases ht; done) | simp [cTt, Tok.head]
  · refine hasT_ok (a3 (t.head, fms t) ?_)
    cases t <;> first | (cases ht; done) | simp [cTt, fms, Tok.head, Tok.rest, kindV]
  · refine hasS_ok (a4 (t.head, kindS k) ?_)
    cases t <;> cases ht <;> simp [sT, kindS, Tok.head]
  · refine He.eqO_ok (a5 t.head ?_)
    cases t <;> first | (cases ht; done) | simp [sNo, Tok.head]
  · refine hasT_ok (a6 (t.head, nms t) ?_)
    cases t <;> first | (cases ht; done) | simp [nT, nms, Tok.head]
  · refine He.eqO_ok (a7 t.head ?_)
    cases t <;> first | (cases ht; done) | simp [nNo, Tok.head]
  · have hm : z ∈ unkL := by rcases hz with rfl | rfl <;> simp [unkL]
    exact ⟨He.eqO_ok (List.all_eq_true.mp h19 z hm), He.eqO_ok (List.all_eq_true.mp h20 z hm)⟩
  · intro H
    obtain ⟨p, e, q⟩ := tupV_ok h8
    cases e
    exact q H
  · exact of_decide_eq_true (List.all_eq_true.mp h21 t ht)
abbrev Row0 : PySem.W.OpenRow := PySem.W.OpenLaw.row PySem.Challenge.rw_openruns_k12_well_formed_histories
/-- the places of the heap that the facts read (found by dropping places, natively: Ev.lean) -/
def asZ : List Addr := ([3, 31, 44, 82, 101, 132, 218, 223, 230, 235, 388, 433, 466, 477, 489, 496, 597, 1001, 1006, 1014] : List Addr) ++ ([1015, 1019, 1026, 1031, 1038, 1043, 1050, 1057, 1064, 1088, 1099, 1106, 1113, 1120, 1125, 1132, 1139, 1144, 1149, 1156] : List Addr) ++ ([1161, 1168, 1173, 1180, 1187, 1194, 1201, 1208, 1215, 1220, 30, 43, 81, 100, 217, 222, 229, 234, 387, 432] : List Addr) ++ ([465, 476, 488, 495, 596, 1002, 1003, 1004, 1005, 1007, 1008, 1009, 1010, 1011, 1012, 1013, 1016, 1017, 1018, 1025] : List Addr) ++ ([1030, 1037, 1042, 1049, 1056, 1063, 1087, 1098, 1105, 1112, 1119, 1124, 1131, 1138, 1143, 1148, 1155, 1160, 1167, 1172] : List Addr) ++ ([1179, 1186, 1193, 1200, 1207, 1214, 1219, 79, 98, 352, 359, 366, 416, 423, 463, 512, 1078, 1085, 78, 97] : List Addr) ++ ([351, 358, 365, 415, 422, 462, 511, 505, 1077, 1084, 504, 2] : List Addr)
def frZ (g : Addr → Option Obj) : PySem.W.Frag := He.frT g asZ
section
variable (fa : List He.Fa) (fn : List He.DefD) (ts : List He.Tab) (ex : PySem.W.Frag → Bool)
def obsZ (g : Addr → Option Obj) : He.AlX := (He.obsT fa fn ts (frZ g), ex (frZ g))
structure SaysZ (w : World) (K : PySem.W.Frag) : Prop where
  t : He.SaysT fa fn ts w K
  more : ex K = true
theorem saysZ_of {w : World} {h : Heap} (e : obsZ fa fn ts ex h.get? = He.valX fn ts w) : SaysZ fa fn ts ex w (frZ h.get?) := by
  have e1 : He.obsT fa fn ts (frZ h.get?) = He.valT fn ts w := congrArg (fun z : He.AlX => z.1) e
  have e2 : ex (frZ h.get?) = true := congrArg (fun z : He.AlX => z.2) e
  exact ⟨e1, e2⟩
def hookZ : PySem.W.Hook where
  α := He.AlX
  obs := fun s => obsZ fa fn ts ex s.heap.get?
  val := fun w => He.valX fn ts w
  says := fun w h => ∃ K : PySem.W.Frag, K.In h ∧ SaysZ fa fn ts ex w K
  of := fun _ _ e => ⟨_, He.frT_in, saysZ_of fa fn ts ex e⟩
  keeps := fun _ _ _ ⟨K, hK, c⟩ k => ⟨K, PySem.W.Frag.In.keeps hK k, c⟩
theorem obsZ_eq {g : Addr → Option Obj} {s : Shared} (h : ∀ a, g a = s.heap.get? a) : obsZ fa fn ts ex g = (hookZ fa fn ts ex).obs s := by
  have e : g = s.heap.get? := funext h
  rw [e] <;> rfl
end
abbrev hk : PySem.W.Hook := hookZ fa fn ts ex
def ob (s : PySem.W.SharedT) : He.AlX := obsZ fa fn ts ex (HandSHeadRun.getT s)
theorem ob_eq (s : PySem.W.SharedT) : ob s = hk.obs s.abs := obsZ_eq fa fn ts ex (HandSHeadRun.getT_eq s)

def loose : List Str := (["_wall", "OpenError", "InputError", "InvalidProgram", "InvalidHistory", "InvalidArgument", "InvalidNote", "RunError", "Falls", "Breaks", "FORMS", "EDIT", "INPUT_SLOT", "lists_of", "with_lists", "words_named", "copied", "LONGEST_WORD", "is_word", "is_integer"] : List Str) ++ (["are_words", "are_notes", "is_same", "NO_WORD", "RANG", "BEGUN", "Moment", "first_moment", "moment_behind", "label_of", "outer_tokens", "may_come", "state_by_age", "running_things", "standing_of", "waits_of", "labels_of", "DEEPEST", "MOST_IN_ROW", "RowCheck"] : List Str) ++ (["are_sides", "may_stand", "THROUGH", "FINISH", "STAYS", "OVER", "Plan", "size_of", "end_within", "MOST_ASKS", "MOST_ANSWERS", "MOST_SIGNALS", "MOST_ROOM", "MOST_SIGNAL_WORDS", "MOST_INPUTS", "MOST_ROWS", "MOST_LABELS", "MOST_SLOTS", "MOST_GATES", "Draft"] : List Str) ++ (["checked_table", "is_entry", "named_in", "check_sizes", "Program", "is_ready", "leave_row", "MOST_ROWS_DONE", "MOST_NOTES_DONE", "END_WORD", "LivePen", "Turn", "turn_done", "do_start", "do_await", "do_first", "do_take", "do_drop", "do_note", "do_put"] : List Str) ++ (["do_if", "do_inner", "do_leave", "do_both", "do_gate", "do_past", "do_end", "DOERS", "ReadPen", "moment_read", "fault_of", "signal_fault", "Run", "run_at", "OUTER_FORMS", "COMMAND_FORMS", "STARTED", "NAMED", "LAST_WORDS", "gone_over"] : List Str) ++ (["turns_in", "is_outer", "has_form", "fits", "check", "cut", "Reader", "reader_of", "read", "good_turns", "resume", "_law_bag", "_law_draw", "_law_one", "_law_words", "_law_same", "_law_word", "_law_token", "_law_odd", "_law_fits"] : List Str) ++ (["_law_enter", "_law_fault", "_law_told", "_law_history", "_law_turns", "_law_no_program"] : List Str)
end K13

set_option Elab.async false
set_option linter.all false
set_option maxRecDepth 100000
set_option maxHeartbeats 0
namespace K13
open PySem PySem.Spec PyProof.Rows L2
theorem run_of {α β γ δ : Type} {o : Option α} {A : α → β} {B : α → γ} {C : α → δ} {a : β} {b : γ} {c : δ} (h1 : o.map A = some a) (h2 : o.map B = some b) (h3 : o.map C = some c) : o.map (fun s => (A s, B s, C s)) = some (a, b, c) := by
  cases o with
  | none => cases h1
  | some s =>
    cases h1
    cases h2
    cases h3
    rfl
theorem no_A (w : World) (os : OsState) : (HandSHeadRun.endF (HandSHeadRun.stepQ (HandSHeadRun.denQ HandSHeadRun.tabQ) Row0.prog (w.withFollow "special-get-raises" false)) 12000 Row0.prog (w.withFollow "special-get-raises" false) os).map (fun s => HandSHeadRun.looksF Row0.prog (PySem.W.boot_heap (w.withFollow "special-get-raises" false).params) s.abs) = some true := by
  kernel_rfl
theorem no_B (w : World) (os : OsState) : (HandSHeadRun.endF (HandSHeadRun.stepQ (HandSHeadRun.denQ HandSHeadRun.tabQ) Row0.prog (w.withFollow "special-get-raises" false)) 12000 Row0.prog (w.withFollow "special-get-raises" false) os).map (fun s => HandSHeadRun.seenQ (PySem.W.view Row0.prog [141]) loose (PySem.importedModules Row0.prog.main.body) (fun s => PySem.W.xlAt (PySem.W.view Row0.prog [141]) [] s && PySem.W.recOk Row0.toRowW.records s) s.abs) = some (PySem.W.openGood (PySem.W.view Row0.prog [141]) loose) := by
  kernel_rfl
theorem no_C (w : World) (os : OsState) : (HandSHeadRun.endF (HandSHeadRun.stepQ (HandSHeadRun.denQ HandSHeadRun.tabQ) Row0.prog (w.withFollow "special-get-raises" false)) 12000 Row0.prog (w.withFollow "special-get-raises" false) os).map (fun s => ob s) = some (hk.val (w.withFollow "special-get-raises" false)) := by
  kernel_rfl
theorem run_no (w : World) : HandSHeadRun.RunEq Row0 (PySem.W.view Row0.prog [141]) hk ob 12000 loose (w.withFollow "special-get-raises" false) := fun os => run_of (no_A w os) (no_B w os) (no_C w os)
theorem yes_A (w : World) (os : OsState) : (HandSHeadRun.endF (HandSHeadRun.stepQ (HandSHeadRun.denQ HandSHeadRun.tabQ) Row0.prog (w.withFollow "special-get-raises" true)) 12000 Row0.prog (w.withFollow "special-get-raises" true) os).map (fun s => HandSHeadRun.looksF Row0.prog (PySem.W.boot_heap (w.withFollow "special-get-raises" true).params) s.abs) = some true := by
  kernel_rfl
theorem yes_B (w : World) (os : OsState) : (HandSHeadRun.endF (HandSHeadRun.stepQ (HandSHeadRun.denQ HandSHeadRun.tabQ) Row0.prog (w.withFollow "special-get-raises" true)) 12000 Row0.prog (w.withFollow "special-get-raises" true) os).map (fun s => HandSHeadRun.seenQ (PySem.W.view Row0.prog [141]) loose (PySem.importedModules Row0.prog.main.body) (fun s => PySem.W.xlAt (PySem.W.view Row0.prog [141]) [] s && PySem.W.recOk Row0.toRowW.records s) s.abs) = some (PySem.W.openGood (PySem.W.view Row0.prog [141]) loose) := by
  kernel_rfl
theorem yes_C (w : World) (os : OsState) : (HandSHeadRun.endF (HandSHeadRun.stepQ (HandSHeadRun.denQ HandSHeadRun.tabQ) Row0.prog (w.withFollow "special-get-raises" true)) 12000 Row0.prog (w.withFollow "special-get-raises" true) os).map (fun s => ob s) = some (hk.val (w.withFollow "special-get-raises" true)) := by
  kernel_rfl
theorem run_yes (w : World) : HandSHeadRun.RunEq Row0 (PySem.W.view Row0.prog [141]) hk ob 12000 loose (w.withFollow "special-get-raises" true) := fun os => run_of (yes_A w os) (yes_B w os) (yes_C w os)
theorem run (w : World) : HandSHeadRun.RunEq Row0 (PySem.W.view Row0.prog [141]) hk ob 12000 loose w := PySem.W.byRow2 "special-get-raises" (P := fun w => HandSHeadRun.RunEq Row0 (PySem.W.view Row0.prog [141]) hk ob 12000 loose w) run_no run_yes w
end K13

set_option Elab.async false
set_option linter.all false
set_option maxRecDepth 100000
set_option maxHeartbeats 0
namespace K13
open PySem PySem.Spec PyProof.Rows L2
section
variable {P : Program} {w : World} {K : PySem.W.Frag} {h base : Heap} {mg : Str → Option Value}
theorem names (X : K.In h) (G : h.Ns mainGlobals mg) (e : ExF K) (c0 : He.SaysT fa fn ts w K) : Tx w K mg :=
  have c := c0.d
  { b_isinstance := He.free_ok X G (c.fact 48 (f := .free "isinstance") rfl)
    b_str := He.free_ok X G (c.fact 49 (f := .free "str") rfl)
    b_int := He.free_ok X G (c.fact 50 (f := .free "int") rfl)
    b_bool := He.free_ok X G (c.fact 51 (f := .free "bool") rfl)
    b_tuple := He.free_ok X G (c.fact 52 (f := .free "tuple") rfl)
    b_list := He.free_ok X G (c.fact 53 (f := .free "list") rfl)
    b_dict := He.free_ok X G (c.fact 54 (f := .free "dict") rfl)
    b_len := He.free_ok X G (c.fact 55 (f := .free "len") rfl)
    b_all := He.free_ok X G (c.fact 56 (f := .free "all") rfl)
    b_any := He.free_ok X G (c.fact 57 (f := .free "any") rfl)
    b_zip := He.free_ok X G (c.fact 58 (f := .free "zip") rfl)
    b_enumerate := He.free_ok X G (c.fact 59 (f := .free "enumerate") rfl)
    b_range := He.free_ok X G (c.fact 60 (f := .free "range") rfl)
    b_sorted := He.free_ok X G (c.fact 61 (f := .free "sorted") rfl)
    b_set := He.free_ok X G (c.fact 62 (f := .free "set") rfl)
    m_LONGEST_WORD := He.int_ok X G (c.fact 65 (f := .int "LONGEST_WORD" (8)) rfl)
    m_FINISH := He.int_ok X G (c.fact 66 (f := .int "FINISH" (-2)) rfl)
    m_MOST_ASKS := He.int_ok X G (c.fact 67 (f := .int "MOST_ASKS" (6)) rfl)
    m_MOST_SIGNALS := He.int_ok X G (c.fact 68 (f := .int "MOST_SIGNALS" (3)) rfl)
    m_MOST_INPUTS := He.int_ok X G (c.fact 69 (f := .int "MOST_INPUTS" (3)) rfl)
    m_MOST_ROWS := He.int_ok X G (c.fact 70 (f := .int "MOST_ROWS" (60)) rfl)
    m_MOST_LABELS := He.int_ok X G (c.fact 71 (f := .int "MOST_LABELS" (6)) rfl)
    m_MOST_SLOTS := He.int_ok X G (c.fact 72 (f := .int "MOST_SLOTS" (4)) rfl)
    m_MOST_GATES := He.int_ok X G (c.fact 73 (f := .int "MOST_GATES" (8)) rfl)
    lastT := e.last
    m_LAST_WORDS := He.glo_ok X G (c.fact 9 (f := .glo "LAST_WORDS") rfl)
    hd := e.hd
    m_OUTER_FORMS := He.glo_ok X G (c.fact 10 (f := .glo "OUTER_FORMS") rfl)
    D_OUTER_FORMS := c0.tab 0 (t := (fun K => He.ga K "OUTER_FORMS", ["begin", "answer", "rang", "signal"])) rfl
    m_COMMAND_FORMS := He.glo_ok X G (c.fact 11 (f := .glo "COMMAND_FORMS") rfl)
    D_COMMAND_FORMS := c0.tab 1 (t := (fun K => He.ga K "COMMAND_FORMS", ["asked", "set", "dropped", "noted", "marked", "ended", "anew"])) rfl
    m_STARTED := He.glo_ok X G (c.fact 12 (f := .glo "STARTED") rfl)
    D_STARTED := c0.tab 2 (t := (fun K => He.ga K "STARTED", ["asked", "set"])) rfl
    m_NAMED := He.glo_ok X G (c.fact 13 (f := .glo "NAMED") rfl)
    D_NAMED := c0.tab 3 (t := (fun K => He.ga K "NAMED", ["answer", "rang", "dropped"])) rfl
    kp := e.kp
    kt := by unfold PySem.W.kitOne; simp
    tyP := fun H a dx fs ha => .base (.ins ha (He.cls_ok (c.fact 92 (f := .cls "Program") rfl)) e.xcP.ha e.xcP.hn e.xcP.ht e.xcP.hm)
    m_Program := He.glo_ok X G (c.fact 4 (f := .glo "Program") rfl)
    c_RowCheck := He.cls_ok (c.fact 76 (f := .cls "RowCheck") rfl)
    n_RowCheck_ask_table := He.noat_ok (c.fact 78 (f := .noat "RowCheck" "ask_table") rfl)
    n_RowCheck_signal_table := He.noat_ok (c.fact 79 (f := .noat "RowCheck" "signal_table") rfl)
    n_RowCheck_with_edits := He.noat_ok (c.fact 80 (f := .noat "RowCheck" "with_edits") rfl)
    n_RowCheck_seen_edits := He.noat_ok (c.fact 81 (f := .noat "RowCheck" "seen_edits") rfl)
    n_RowCheck_seen_gates := He.noat_ok (c.fact 82 (f := .noat "RowCheck" "seen_gates") rfl)
    c_Plan := He.cls_ok (c.fact 83 (f := .cls "Plan") rfl)
    n_Plan_flat := He.noat_ok (c.fact 85 (f := .noat "Plan" "flat") rfl)
    n_Plan_places := He.noat_ok (c.fact 86 (f := .noat "Plan" "places") rfl)
    n_Plan_behind := He.noat_ok (c.fact 87 (f := .noat "Plan" "behind") rfl)
    n_Plan_entries := He.noat_ok (c.fact 88 (f := .noat "Plan" "entries") rfl)
    n_Plan_sides := He.noat_ok (c.fact 89 (f := .noat "Plan" "sides") rfl)
    n_Plan_starts := He.noat_ok (c.fact 90 (f := .noat "Plan" "starts") rfl)
    n_Plan_numbers := He.noat_ok (c.fact 91 (f := .noat "Plan" "numbers") rfl)
    c_Program := He.cls_ok (c.fact 92 (f := .cls "Program") rfl)
    n_Program_ask_table := He.noat_ok (c.fact 94 (f := .noat "Program" "ask_table") rfl)
    n_Program_signal_table := He.noat_ok (c.fact 95 (f := .noat "Program" "signal_table") rfl)
    n_Program_input_words := He.noat_ok (c.fact 96 (f := .noat "Program" "input_words") rfl)
    n_Program_row_list := He.noat_ok (c.fact 97 (f := .noat "Program" "row_list") rfl)
    n_Program_plan := He.noat_ok (c.fact 98 (f := .noat "Program" "plan") rfl)
    n_Program_name_table := He.noat_ok (c.fact 99 (f := .noat "Program" "name_table") rfl)
    c_Reader := He.cls_ok (c.fact 100 (f := .cls "Reader") rfl)
    n_Reader_program := He.noat_ok (c.fact 102 (f := .noat "Reader" "program") rfl)
    n_Reader_moment := He.noat_ok (c.fact 103 (f := .noat "Reader" "moment") rfl)
    n_Reader_turns_read := He.noat_ok (c.fact 104 (f := .noat "Reader" "turns_read") rfl)
    n_Reader_tokens_read := He.noat_ok (c.fact 105 (f := .noat "Reader" "tokens_read") rfl)
    n_Reader_breach := He.noat_ok (c.fact 106 (f := .noat "Reader" "breach") rfl) }
theorem def_IA (X : K.In h) (G : h.Ns mainGlobals mg) (e : ExF K) (c : He.SaysD fa fn K) : ErrDef P w K mg base CX0 1 "InvalidArgument" (cIA K) ["self", "part"] ["part"] := by
  obtain ⟨fd, F⟩ := c.def_ 0 (d := dIA) rfl
  obtain ⟨i1, i2⟩ := He.ba e.ini
  refine ⟨⟨_, fd, He.glo_ok X G (c.fact 0 (f := .glo "InvalidArgument") rfl), e.err, He.eqO_ok i1, of_decide_eq_true i2, F.bindsN (ps := ["self", "part"]) (fun _ _ _ _ _ _ us hl => match us, hl with | [_, _], _ => rfl), fun s u ws _ hl => ?_, ?_, by decide, rfl⟩⟩
  · obtain ⟨oc, od, dV, kV, doc, pm, an, cdv, ct, osl, rfl, _, _, hD, _⟩ := F.ex
    rcases hD with ⟨_, rfl⟩ | ⟨z, _⟩
    · match ws, hl with
      | [_], _ => exact .of_eq rfl
    · exact absurd rfl z
  · exact ok_ini1 F ⟨rfl, rfl, rfl, by decide +kernel, rfl, by decide +kernel, by decide +kernel⟩ rfl rfl (by decide) (by decide) e.err (He.noat_ok (c.fact 63 (f := .noat "InvalidArgument" "part") rfl))
theorem def_IH (X : K.In h) (G : h.Ns mainGlobals mg) (e : ExF K) (c : He.SaysD fa fn K) : ErrDef P w K mg base CX0 1 "InvalidHistory" (cIH K) ["self", "at"] ["at"] := by
  obtain ⟨fd, F⟩ := c.def_ 1 (d := dIH) rfl
  obtain ⟨i1, i2⟩ := He.ba e.iniH
  refine ⟨⟨_, fd, He.glo_ok X G (c.fact 1 (f := .glo "InvalidHistory") rfl), e.errH, He.eqO_ok i1, of_decide_eq_true i2, F.bindsN (ps := ["self", "at"]) (fun _ _ _ _ _ _ us hl => match us, hl with | [_, _], _ => rfl), fun s u ws _ hl => ?_, ?_, by decide, rfl⟩⟩
  · obtain ⟨oc, od, dV, kV, doc, pm, an, cdv, ct, osl, rfl, _, _, hD, _⟩ := F.ex
    rcases hD with ⟨_, rfl⟩ | ⟨z, _⟩
    · match ws, hl with
      | [_], _ => exact .of_eq rfl
    · exact absurd rfl z
  · exact ok_ini1 F ⟨rfl, rfl, rfl, by decide +kernel, rfl, by decide +kernel, by decide +kernel⟩ rfl rfl (by decide) (by decide) e.errH (He.noat_ok (c.fact 64 (f := .noat "InvalidHistory" "at") rfl))
theorem same_0 {f : Addr} {fd : FuncData} (F : FnP K "_law_same" "_law_same" s__law_same f fd) : FnOk P w K mg base CX0 0 f fd p__law_same (spSame K 0) := by
  refine ⟨fun vs H Q E h => ?_, fun A outer s H args us vs Q E _ _ _ _ h => ?_⟩
  · obtain ⟨v, w, rfl, _⟩ := h
    rfl
  · obtain ⟨v, w, rfl, hs, _⟩ := h
    cases hs
theorem kw_ok {v : Value} (k : (match v with
    | .ref D => He.eqO (PySem.W.nsIn K D "asks") (some (some .none)) && (He.eqO (PySem.W.nsIn K D "signals") (some (some .none)) && hasT K D ("inputs", gos))
    | _ => false) = true) : ∃ D, v = .ref D ∧ PySem.W.nsIn K D "asks" = some (some .none) ∧ PySem.W.nsIn K D "signals" = some (some .none) ∧ hasT K D ("inputs", gos) = true := by
  cases v with
  | ref D =>
    obtain ⟨k3, k4⟩ := He.ba k
    obtain ⟨k4, k5⟩ := He.ba k4
    exact ⟨D, rfl, He.eqO_ok k3, He.eqO_ok k4, k5⟩
  | _ => cases k
theorem prog_kw {f : Addr} {fd : FuncData} (e : ExF K) (F : FunD K "__init__" "Program.__init__" (defArgs s_Program___init__) (defBody s_Program___init__) (defScope s_Program___init__) [] [] f fd) (hf : f = He.fAd K ("Program", some "__init__")) :
    ∃ gt : Addr, (∀ H, SqT K H gt gos) ∧ FunD K "__init__" "Program.__init__" (defArgs s_Program___init__) (defBody s_Program___init__) (defScope s_Program___init__) [] [("asks", .non), ("signals", .non), ("inputs", .ref gt)] f fd := by
  obtain ⟨oc, od, dV, kV, doc, pm, an, cdv, ct, osl, rfl, lk, hcd, hD, _⟩ := F.ex
  subst hf
  have k := e.kwP_
  unfold kwP at k
  rw [lk] at k
  obtain ⟨D, rfl, k3, k4, k5⟩ := kw_ok k
  obtain ⟨gt, q1, q2⟩ := hasT_ok k5
  refine ⟨gt, q2, ⟨oc, od, dV, .ref D, doc, pm, an, cdv, ct, osl, rfl, lk, hcd, hD, .inr ⟨D, rfl, fun q hq => ?_⟩⟩, F.kp⟩
  simp only [List.mem_cons, List.not_mem_nil, or_false] at hq
  rcases hq with rfl | rfl | rfl
  · exact ⟨_, k3, rfl⟩
  · exact ⟨_, k4, rfl⟩
  · exact ⟨_, q1, rfl⟩
theorem prog_binds {f : Addr} {fd : FuncData} {gt : Addr} (F : FunD K "__init__" "Program.__init__" (defArgs s_Program___init__) (defBody s_Program___init__) (defScope s_Program___init__) [] [("asks", .non), ("signals", .non), ("inputs", .ref gt)] f fd) :
    ∃ ds, Vals [V.non, V.non, V.ref gt] ds ∧ Binds K fd p_Program___init__ ds :=
  F.binds0 (ps := p_Program___init__) 2 (by simp) rfl (fun D doc pm an cdv ct us ks h1 h2 => match us, h1, ks, h2 with
    | [_, _], _, [_, _, _], _ => ⟨_, _, _, _, _, _, rfl, rfl, _, _, _, _, _, _, rfl, rfl, _, _, _, _, _, _, rfl, rfl, rfl⟩)
theorem facts (X : K.In h) (G : h.Ns mainGlobals mg) {f : Addr} (hfa : mg ("law" : Str) = some (.ref f)) (ee : ex K = true) (c0 : He.SaysT fa fn ts w K) :
    ∃ fd : FuncData, (∀ (s : Shared) (v : Value), BindsTo s fd ⟨[v], []⟩ [("_law_script", v)]) ∧ ∀ base : Heap, K.In base → base.Ns mainGlobals mg → FnOk P w K mg base CX0 9 f fd ["_law_script"] (spLaw K) := by
  have e := ex_ok ee
  have T := names X G e c0
  have c := c0.d
  obtain ⟨fd_is_word, Fd_is_word⟩ := c.def_ 2 (d := d_is_word) rfl
  obtain ⟨fd_is_integer, Fd_is_integer⟩ := c.def_ 3 (d := d_is_integer) rfl
  obtain ⟨fd_are_words, Fd_are_words⟩ := c.def_ 4 (d := d_are_words) rfl
  obtain ⟨fd_copied, Fd_copied⟩ := c.def_ 5 (d := d_copied) rfl
  obtain ⟨fd_RowCheck___init__, Fd_RowCheck___init__⟩ := c.def_ 6 (d := d_RowCheck___init__) rfl
  obtain ⟨fd_RowCheck_check_rows, Fd_RowCheck_check_rows⟩ := c.def_ 7 (d := d_RowCheck_check_rows) rfl
  obtain ⟨fd_RowCheck_check_list, Fd_RowCheck_check_list⟩ := c.def_ 8 (d := d_RowCheck_check_list) rfl
  obtain ⟨fd_Plan___init__, Fd_Plan___init__⟩ := c.def_ 9 (d := d_Plan___init__) rfl
  obtain ⟨fd_Plan_lay_list, Fd_Plan_lay_list⟩ := c.def_ 10 (d := d_Plan_lay_list) rfl
  obtain ⟨fd_Draft___init__, Fd_Draft___init__⟩ := c.def_ 11 (d := d_Draft___init__) rfl
  obtain ⟨fd_checked_table, Fd_checked_table⟩ := c.def_ 12 (d := d_checked_table) rfl
  obtain ⟨fd_named_in, Fd_named_in⟩ := c.def_ 13 (d := d_named_in) rfl
  obtain ⟨fd_check_sizes, Fd_check_sizes⟩ := c.def_ 14 (d := d_check_sizes) rfl
  obtain ⟨fd_Program___init__, Fd_Program___init__⟩ := c.def_ 15 (d := d_Program___init__) rfl
  obtain ⟨fd_gone_over, Fd_gone_over⟩ := c.def_ 16 (d := d_gone_over) rfl
  obtain ⟨fd_turns_in, Fd_turns_in⟩ := c.def_ 17 (d := d_turns_in) rfl
  obtain ⟨fd_is_outer, Fd_is_outer⟩ := c.def_ 18 (d := d_is_outer) rfl
  obtain ⟨fd_has_form, Fd_has_form⟩ := c.def_ 19 (d := d_has_form) rfl
  obtain ⟨fd_fits, Fd_fits⟩ := c.def_ 20 (d := d_fits) rfl
  obtain ⟨fd_check, Fd_check⟩ := c.def_ 21 (d := d_check) rfl
  obtain ⟨fd_cut, Fd_cut⟩ := c.def_ 22 (d := d_cut) rfl
  obtain ⟨fd_Reader___init__, Fd_Reader___init__⟩ := c.def_ 23 (d := d_Reader___init__) rfl
  obtain ⟨fd_Reader_read_turns, Fd_Reader_read_turns⟩ := c.def_ 24 (d := d_Reader_read_turns) rfl
  obtain ⟨fd_reader_of, Fd_reader_of⟩ := c.def_ 25 (d := d_reader_of) rfl
  obtain ⟨fd_read, Fd_read⟩ := c.def_ 26 (d := d_read) rfl
  obtain ⟨fd_good_turns, Fd_good_turns⟩ := c.def_ 27 (d := d_good_turns) rfl
  obtain ⟨fd_resume, Fd_resume⟩ := c.def_ 28 (d := d_resume) rfl
  obtain ⟨fd__law_bag, Fd__law_bag⟩ := c.def_ 29 (d := d__law_bag) rfl
  obtain ⟨fd__law_draw, Fd__law_draw⟩ := c.def_ 30 (d := d__law_draw) rfl
  obtain ⟨fd__law_one, Fd__law_one⟩ := c.def_ 31 (d := d__law_one) rfl
  obtain ⟨fd__law_words, Fd__law_words⟩ := c.def_ 32 (d := d__law_words) rfl
  obtain ⟨fd__law_same, Fd__law_same⟩ := c.def_ 33 (d := d__law_same) rfl
  obtain ⟨fd__law_word, Fd__law_word⟩ := c.def_ 34 (d := d__law_word) rfl
  obtain ⟨fd__law_token, Fd__law_token⟩ := c.def_ 35 (d := d__law_token) rfl
  obtain ⟨fd__law_odd, Fd__law_odd⟩ := c.def_ 36 (d := d__law_odd) rfl
  obtain ⟨fd__law_fits, Fd__law_fits⟩ := c.def_ 37 (d := d__law_fits) rfl
  obtain ⟨fd__law_enter, Fd__law_enter⟩ := c.def_ 38 (d := d__law_enter) rfl
  obtain ⟨fd__law_fault, Fd__law_fault⟩ := c.def_ 39 (d := d__law_fault) rfl
  obtain ⟨fd__law_told, Fd__law_told⟩ := c.def_ 40 (d := d__law_told) rfl
  obtain ⟨fd__law_history, Fd__law_history⟩ := c.def_ 41 (d := d__law_history) rfl
  obtain ⟨fd__law_turns, Fd__law_turns⟩ := c.def_ 42 (d := d__law_turns) rfl
  obtain ⟨fd__law_no_program, Fd__law_no_program⟩ := c.def_ 43 (d := d__law_no_program) rfl
  obtain ⟨fd_law, Fd_law⟩ := c.def_ 44 (d := d_law) rfl
  have z := hfa.symm.trans (He.glo_ok X G (c.fact 47 (f := .glo "law") rfl))
  cases z
  have b := FunD.bindsA (ps := ["_law_script"]) Fd_law fun _ _ _ _ _ _ us hl => match us, hl with | [_], _ => rfl
  refine ⟨fd_law, fun s v => b s [v] rfl, fun base _ _ => ?_⟩
  have IA := def_IA (P := P) (w := w) (base := base) X G e c
  have IH := def_IH (P := P) (w := w) (base := base) X G e c
  have G_is_word : Def P w K mg base CX0 1 "is_word" p_is_word (spIsWord K) := ⟨⟨_, fd_is_word, He.glo_ok X G (c.fact 14 (f := .glo "is_word") rfl), Fd_is_word.kp, Fd_is_word.bindsN (ps := p_is_word) (fun _ _ _ _ _ _ us hl => match us, hl with | [_], _ => rfl), ok_is_word Fd_is_word T⟩⟩
  have G_is_integer : Def P w K mg base CX0 1 "is_integer" p_is_integer spIsInt := ⟨⟨_, fd_is_integer, He.glo_ok X G (c.fact 15 (f := .glo "is_integer") rfl), Fd_is_integer.kp, Fd_is_integer.bindsN (ps := p_is_integer) (fun _ _ _ _ _ _ us hl => match us, hl with | [_], _ => rfl), ok_is_integer Fd_is_integer T⟩⟩
  have G_fits : Def P w K mg base CX0 2 "fits" p_fits spFits := ⟨⟨_, fd_fits, He.glo_ok X G (c.fact 25 (f := .glo "fits") rfl), Fd_fits.kp, Fd_fits.bindsN (ps := p_fits) (fun _ _ _ _ _ _ us hl => match us, hl with | [_, _], _ => rfl), ok_fits Fd_fits T G_is_integer G_is_word⟩⟩
  have G_has_form : Def P w K mg base CX0 3 "has_form" p_has_form (spHasForm K) := ⟨⟨_, fd_has_form, He.glo_ok X G (c.fact 24 (f := .glo "has_form") rfl), Fd_has_form.kp, Fd_has_form.bindsN (ps := p_has_form) (fun _ _ _ _ _ _ us hl => match us, hl with | [_], _ => rfl), ok_has_form Fd_has_form T G_fits⟩⟩
  have G_is_outer : Def P w K mg base CX0 1 "is_outer" p_is_outer (spIsOuter K) := ⟨⟨_, fd_is_outer, He.glo_ok X G (c.fact 23 (f := .glo "is_outer") rfl), Fd_is_outer.kp, Fd_is_outer.bindsN (ps := p_is_outer) (fun _ _ _ _ _ _ us hl => match us, hl with | [_], _ => rfl), ok_is_outer Fd_is_outer T⟩⟩
  have G_gone_over : Def P w K mg base CX0 4 "gone_over" p_gone_over (spGone K) := ⟨⟨_, fd_gone_over, He.glo_ok X G (c.fact 21 (f := .glo "gone_over") rfl), Fd_gone_over.kp, Fd_gone_over.bindsN (ps := p_gone_over) (fun _ _ _ _ _ _ us hl => match us, hl with | [_], _ => rfl), ok_gone Fd_gone_over T G_has_form⟩⟩
  have G_turns_in : Def P w K mg base CX0 2 "turns_in" p_turns_in (spTurnsIn K) := ⟨⟨_, fd_turns_in, He.glo_ok X G (c.fact 22 (f := .glo "turns_in") rfl), Fd_turns_in.kp, Fd_turns_in.bindsN (ps := p_turns_in) (fun _ _ _ _ _ _ us hl => match us, hl with | [_], _ => rfl), ok_turnsIn Fd_turns_in T G_is_outer⟩⟩
  have G_cut : Def P w K mg base (L2.CX P w) 5 "cut" p_cut (spCutG K) := ⟨⟨_, fd_cut, He.glo_ok X G (c.fact 27 (f := .glo "cut") rfl), Fd_cut.kp, Fd_cut.bindsN (ps := p_cut) (fun _ _ _ _ _ _ us hl => match us, hl with | [_], _ => rfl), ok_cutG Fd_cut T IH G_gone_over G_turns_in⟩⟩
  have G_check : Def P w K mg base (L2.CX P w) 6 "check" p_check (spCheckG K) := ⟨⟨_, fd_check, He.glo_ok X G (c.fact 26 (f := .glo "check") rfl), Fd_check.kp, Fd_check.bindsN (ps := p_check) (fun _ _ _ _ _ _ us hl => match us, hl with | [_], _ => rfl), ok_checkG Fd_check T G_cut⟩⟩
  have G_are_words : Def P w K mg base CX0 2 "are_words" p_are_words (spGoWords K) := ⟨⟨_, fd_are_words, He.glo_ok X G (c.fact 16 (f := .glo "are_words") rfl), Fd_are_words.kp, Fd_are_words.bindsN (ps := p_are_words) (fun _ _ _ _ _ _ us hl => match us, hl with | [_, _], _ => rfl), ok_are_words Fd_are_words T G_is_word⟩⟩
  have G_checked_table : Def P w K mg base CX0 1 "checked_table" p_checked_table spNoTable := ⟨⟨_, fd_checked_table, He.glo_ok X G (c.fact 18 (f := .glo "checked_table") rfl), Fd_checked_table.kp, Fd_checked_table.bindsN (ps := p_checked_table) (fun _ _ _ _ _ _ us hl => match us, hl with | [_, _, _], _ => rfl), ok_checked_table Fd_checked_table T⟩⟩
  have K_RowCheck : MkA P w K mg base CX0 1 "RowCheck" (He.ga K "RowCheck") [] p_RowCheck___init__ (spRC K) := ⟨⟨_, fd_RowCheck___init__, [], He.glo_ok X G (c.fact 6 (f := .glo "RowCheck") rfl), He.mkr_ok (c.fact 77 (f := .mkr "RowCheck") rfl), Fd_RowCheck___init__.bindsN (ps := p_RowCheck___init__) (fun _ _ _ _ _ _ us hl => match us, hl with | [_, _, _, _], _ => rfl), .nil, ok_rc Fd_RowCheck___init__ T⟩⟩
  have M_check_list : MDef P w K mg base CX0 1 (He.ga K "RowCheck") "check_list" p_RowCheck_check_list (spList0 K) := ⟨T.c_RowCheck, ⟨_, fd_RowCheck_check_list, He.meth_ok (c.fact 108 (f := .meth "RowCheck" "check_list") rfl), Fd_RowCheck_check_list.bindsN (ps := p_RowCheck_check_list) (fun _ _ _ _ _ _ us hl => match us, hl with | [_, _, _, _], _ => rfl), ok_list0 Fd_RowCheck_check_list T⟩⟩
  have M_check_rows : MDef P w K mg base CX0 2 (He.ga K "RowCheck") "check_rows" p_RowCheck_check_rows (spRows0 K) := ⟨T.c_RowCheck, ⟨_, fd_RowCheck_check_rows, He.meth_ok (c.fact 107 (f := .meth "RowCheck" "check_rows") rfl), Fd_RowCheck_check_rows.bindsN (ps := p_RowCheck_check_rows) (fun _ _ _ _ _ _ us hl => match us, hl with | [_, _], _ => rfl), ok_rows0 Fd_RowCheck_check_rows T M_check_list⟩⟩
  have G_copied : Def P w K mg base CX0 1 "copied" p_copied spCopied0 := ⟨⟨_, fd_copied, He.glo_ok X G (c.fact 17 (f := .glo "copied") rfl), Fd_copied.kp, Fd_copied.bindsN (ps := p_copied) (fun _ _ _ _ _ _ us hl => match us, hl with | [_], _ => rfl), ok_copied0 Fd_copied T⟩⟩
  have M_lay_list : MDef P w K mg base CX0 1 (He.ga K "Plan") "lay_list" p_Plan_lay_list spLay0 := ⟨T.c_Plan, ⟨_, fd_Plan_lay_list, He.meth_ok (c.fact 109 (f := .meth "Plan" "lay_list") rfl), Fd_Plan_lay_list.bindsN (ps := p_Plan_lay_list) (fun _ _ _ _ _ _ us hl => match us, hl with | [_, _, _, _, _], _ => rfl), ok_lay0 Fd_Plan_lay_list T⟩⟩
  have K_Plan : MkA P w K mg base CX0 2 "Plan" (He.ga K "Plan") [] p_Plan___init__ (spPlan K) := ⟨⟨_, fd_Plan___init__, [], He.glo_ok X G (c.fact 7 (f := .glo "Plan") rfl), He.mkr_ok (c.fact 84 (f := .mkr "Plan") rfl), Fd_Plan___init__.bindsN (ps := p_Plan___init__) (fun _ _ _ _ _ _ us hl => match us, hl with | [_, _], _ => rfl), .nil, ok_plan Fd_Plan___init__ T M_lay_list⟩⟩
  have G_named_in : Def P w K mg base CX0 1 "named_in" p_named_in spNamed0 := ⟨⟨_, fd_named_in, He.glo_ok X G (c.fact 19 (f := .glo "named_in") rfl), Fd_named_in.kp, Fd_named_in.bindsN (ps := p_named_in) (fun _ _ _ _ _ _ us hl => match us, hl with | [_], _ => rfl), ok_named0 Fd_named_in T⟩⟩
  have G_check_sizes : Def P w K mg base CX0 1 "check_sizes" p_check_sizes (spSizes0 K) := ⟨⟨_, fd_check_sizes, He.glo_ok X G (c.fact 20 (f := .glo "check_sizes") rfl), Fd_check_sizes.kp, Fd_check_sizes.bindsN (ps := p_check_sizes) (fun _ _ _ _ _ _ us hl => match us, hl with | [_, _], _ => rfl), ok_sizes0 Fd_check_sizes T⟩⟩
  have C_Draft : CFun P w K mg base CX0 4 "Draft" (He.ga K "Draft") "__init__" p_Draft___init__ (spDraft K) := ⟨⟨_, fd_Draft___init__, _, He.glo_ok X G (c.fact 5 (f := .glo "Draft") rfl), (drB_ok e.dr).1, (drB_ok e.dr).2, Fd_Draft___init__.kp, Fd_Draft___init__.bindsN (ps := p_Draft___init__) (fun _ _ _ _ _ _ us hl => match us, hl with | [_, _, _, _, _, _], _ => rfl), ok_draft Fd_Draft___init__ T G_checked_table G_are_words K_RowCheck M_check_rows G_copied K_Plan G_named_in G_check_sizes⟩⟩
  obtain ⟨gt, hgt, FP⟩ := prog_kw e Fd_Program___init__ rfl
  obtain ⟨ds, hds, bP⟩ := prog_binds FP
  have K_Program : MkA P w K mg base CX0 5 "Program" (He.ga K "Program") [.non, .non, .ref gt] p_Program___init__ (spProg K) := ⟨⟨_, fd_Program___init__, ds, T.m_Program, He.mkr_ok (c.fact 93 (f := .mkr "Program") rfl), bP, hds, ok_prog FP T C_Draft⟩⟩
  have K_Reader : MkA P w K mg base CX0 1 "Reader" (He.ga K "Reader") [] p_Reader___init__ (spReader K) := ⟨⟨_, fd_Reader___init__, [], He.glo_ok X G (c.fact 8 (f := .glo "Reader") rfl), He.mkr_ok (c.fact 101 (f := .mkr "Reader") rfl), Fd_Reader___init__.bindsN (ps := p_Reader___init__) (fun _ _ _ _ _ _ us hl => match us, hl with | [_, _], _ => rfl), .nil, ok_reader Fd_Reader___init__ T⟩⟩
  have M_read_turns : MDef P w K mg base CX0 1 (He.ga K "Reader") "read_turns" p_Reader_read_turns (fun _ _ _ _ => False) := ⟨T.c_Reader, ⟨_, fd_Reader_read_turns, He.meth_ok (c.fact 110 (f := .meth "Reader" "read_turns") rfl), Fd_Reader_read_turns.bindsN (ps := p_Reader_read_turns) (fun _ _ _ _ _ _ us hl => match us, hl with | [_, _], _ => rfl), ⟨fun _ _ _ _ h => h.elim, fun _ _ _ _ _ _ _ _ _ _ _ _ _ h => h.elim⟩⟩⟩
  have G_reader_of : Def P w K mg base (L2.CX P w) 6 "reader_of" p_reader_of (spRaise K) := ⟨⟨_, fd_reader_of, He.glo_ok X G (c.fact 28 (f := .glo "reader_of") rfl), Fd_reader_of.kp, Fd_reader_of.bindsN (ps := p_reader_of) (fun _ _ _ _ _ _ us hl => match us, hl with | [_, _], _ => rfl), ok_readerOf Fd_reader_of T IA K_Reader M_read_turns G_cut⟩⟩
  have G_read : Def P w K mg base (L2.CX P w) 7 "read" p_read (spRaise K) := ⟨⟨_, fd_read, He.glo_ok X G (c.fact 29 (f := .glo "read") rfl), Fd_read.kp, Fd_read.bindsN (ps := p_read) (fun _ _ _ _ _ _ us hl => match us, hl with | [_, _], _ => rfl), ok_read Fd_read T G_reader_of⟩⟩
  have G_good_turns : Def P w K mg base (L2.CX P w) 7 "good_turns" p_good_turns (spRaise K) := ⟨⟨_, fd_good_turns, He.glo_ok X G (c.fact 30 (f := .glo "good_turns") rfl), Fd_good_turns.kp, Fd_good_turns.bindsN (ps := p_good_turns) (fun _ _ _ _ _ _ us hl => match us, hl with | [_, _], _ => rfl), ok_good Fd_good_turns T G_reader_of⟩⟩
  have G_resume : Def P w K mg base (L2.CX P w) 7 "resume" p_resume (spRaise K) := ⟨⟨_, fd_resume, He.glo_ok X G (c.fact 31 (f := .glo "resume") rfl), Fd_resume.kp, Fd_resume.bindsN (ps := p_resume) (fun _ _ _ _ _ _ us hl => match us, hl with | [_, _], _ => rfl), ok_resume Fd_resume T G_reader_of⟩⟩
  have EF : ErrF K mg := ⟨e.xfH, ⟨e.xfH.ga, e.xfH.gg, e.xfH.exC, e.xfH.hdC, e.xcH.ha, e.xcH.hn, e.xcH.ht, e.xcH.hm⟩, He.glo_ok X G (c.fact 1 (f := .glo "InvalidHistory") rfl), He.glo_ok X G (c.fact 0 (f := .glo "InvalidArgument") rfl), He.glo_ok X G (c.fact 2 (f := .glo "RunError") rfl), He.glo_ok X G (c.fact 3 (f := .glo "InputError") rfl), He.noat_ok (c.fact 64 (f := .noat "InvalidHistory" "at") rfl), He.exm_ok (c.fact 75 (f := .exm "InvalidHistory" "InvalidHistory" true) rfl), e.kIA, e.kRE, e.kIE⟩
  have EA : ErrA K mg := ⟨e.xf, He.glo_ok X G (c.fact 0 (f := .glo "InvalidArgument") rfl), He.noat_ok (c.fact 63 (f := .noat "InvalidArgument" "part") rfl), He.exm_ok (c.fact 74 (f := .exm "InvalidArgument" "InvalidArgument" true) rfl)⟩
  have G__law_told : Def P w K mg base CX0 8 "_law_told" p__law_told (spTold K) := ⟨⟨_, fd__law_told, He.glo_ok X G (c.fact 43 (f := .glo "_law_told") rfl), Fd__law_told.kp, Fd__law_told.bindsN (ps := p__law_told) (fun _ _ _ _ _ _ us hl => match us, hl with | [_, _], _ => rfl), ok_told Fd__law_told T EF hgt K_Program G_check G_cut G_read G_good_turns G_resume⟩⟩
  have G__law_no_program : Def P w K mg base CX0 8 "_law_no_program" p__law_no_program (spNoProg K) := ⟨⟨_, fd__law_no_program, He.glo_ok X G (c.fact 46 (f := .glo "_law_no_program") rfl), Fd__law_no_program.kp, Fd__law_no_program.bindsN (ps := p__law_no_program) (fun _ _ _ _ _ _ us hl => match us, hl with | [_], _ => rfl), ok_noprog Fd__law_no_program T EA G_read G_good_turns G_resume⟩⟩
  have G__law_bag : Def P w K mg base CX0 1 "_law_bag" p__law_bag (spBag K) := ⟨⟨_, fd__law_bag, He.glo_ok X G (c.fact 32 (f := .glo "_law_bag") rfl), Fd__law_bag.kp, Fd__law_bag.bindsN (ps := p__law_bag) (fun _ _ _ _ _ _ us hl => match us, hl with | [_], _ => rfl), ok_bag Fd__law_bag T⟩⟩
  have G__law_draw : Def P w K mg base CX0 1 "_law_draw" p__law_draw spDraw := ⟨⟨_, fd__law_draw, He.glo_ok X G (c.fact 33 (f := .glo "_law_draw") rfl), Fd__law_draw.kp, Fd__law_draw.bindsN (ps := p__law_draw) (fun _ _ _ _ _ _ us hl => match us, hl with | [_, _], _ => rfl), ok_draw Fd__law_draw T⟩⟩
  have G__law_one : Def P w K mg base CX0 2 "_law_one" p__law_one (spOne K) := ⟨⟨_, fd__law_one, He.glo_ok X G (c.fact 34 (f := .glo "_law_one") rfl), Fd__law_one.kp, Fd__law_one.bindsN (ps := p__law_one) (fun _ _ _ _ _ _ us hl => match us, hl with | [_, _], _ => rfl), ok_one Fd__law_one T G__law_draw⟩⟩
  have G__law_words : Def P w K mg base CX0 2 "_law_words" p__law_words (spWords K) := ⟨⟨_, fd__law_words, He.glo_ok X G (c.fact 35 (f := .glo "_law_words") rfl), Fd__law_words.kp, Fd__law_words.bindsN (ps := p__law_words) (fun _ _ _ _ _ _ us hl => match us, hl with | [_, _, _, _], _ => rfl), ok_words Fd__law_words T G__law_draw⟩⟩
  have S0 : Def P w K mg base CX0 0 "_law_same" p__law_same (spSame K 0) := ⟨⟨_, fd__law_same, He.glo_ok X G (c.fact 36 (f := .glo "_law_same") rfl), Fd__law_same.kp, Fd__law_same.bindsN (ps := p__law_same) (fun _ _ _ _ _ _ us hl => match us, hl with | [_, _], _ => rfl), same_0 Fd__law_same⟩⟩
  have S1 : Def P w K mg base CX0 1 "_law_same" p__law_same (spSame K 1) := ⟨⟨_, fd__law_same, He.glo_ok X G (c.fact 36 (f := .glo "_law_same") rfl), Fd__law_same.kp, Fd__law_same.bindsN (ps := p__law_same) (fun _ _ _ _ _ _ us hl => match us, hl with | [_, _], _ => rfl), ok_same Fd__law_same T S0⟩⟩
  have S2 : Def P w K mg base CX0 2 "_law_same" p__law_same (spSame K 2) := ⟨⟨_, fd__law_same, He.glo_ok X G (c.fact 36 (f := .glo "_law_same") rfl), Fd__law_same.kp, Fd__law_same.bindsN (ps := p__law_same) (fun _ _ _ _ _ _ us hl => match us, hl with | [_, _], _ => rfl), ok_same Fd__law_same T S1⟩⟩
  have S3 : Def P w K mg base CX0 3 "_law_same" p__law_same (spSame K 3) := ⟨⟨_, fd__law_same, He.glo_ok X G (c.fact 36 (f := .glo "_law_same") rfl), Fd__law_same.kp, Fd__law_same.bindsN (ps := p__law_same) (fun _ _ _ _ _ _ us hl => match us, hl with | [_, _], _ => rfl), ok_same Fd__law_same T S2⟩⟩
  have S4 : Def P w K mg base CX0 4 "_law_same" p__law_same (spSame K 4) := ⟨⟨_, fd__law_same, He.glo_ok X G (c.fact 36 (f := .glo "_law_same") rfl), Fd__law_same.kp, Fd__law_same.bindsN (ps := p__law_same) (fun _ _ _ _ _ _ us hl => match us, hl with | [_, _], _ => rfl), ok_same Fd__law_same T S3⟩⟩
  have S5 : Def P w K mg base CX0 5 "_law_same" p__law_same (spSame K 5) := ⟨⟨_, fd__law_same, He.glo_ok X G (c.fact 36 (f := .glo "_law_same") rfl), Fd__law_same.kp, Fd__law_same.bindsN (ps := p__law_same) (fun _ _ _ _ _ _ us hl => match us, hl with | [_, _], _ => rfl), ok_same Fd__law_same T S4⟩⟩
  have S6 : Def P w K mg base CX0 6 "_law_same" p__law_same (spSame K 6) := ⟨⟨_, fd__law_same, He.glo_ok X G (c.fact 36 (f := .glo "_law_same") rfl), Fd__law_same.kp, Fd__law_same.bindsN (ps := p__law_same) (fun _ _ _ _ _ _ us hl => match us, hl with | [_, _], _ => rfl), ok_same Fd__law_same T S5⟩⟩
  have G__law_word : Def P w K mg base CX0 3 "_law_word" p__law_word (spWord K) := ⟨⟨_, fd__law_word, He.glo_ok X G (c.fact 37 (f := .glo "_law_word") rfl), Fd__law_word.kp, Fd__law_word.bindsN (ps := p__law_word) (fun _ _ _ _ _ _ us hl => match us, hl with | [_], _ => rfl), ok_word Fd__law_word T G__law_words⟩⟩
  have G__law_token : Def P w K mg base CX0 4 "_law_token" p__law_token (spToken K) := ⟨⟨_, fd__law_token, He.glo_ok X G (c.fact 38 (f := .glo "_law_token") rfl), Fd__law_token.kp, Fd__law_token.bindsN (ps := p__law_token) (fun _ _ _ _ _ _ us hl => match us, hl with | [_, _], _ => rfl), ok_token Fd__law_token T G__law_draw G__law_one G__law_word⟩⟩
  have G__law_odd : Def P w K mg base CX0 2 "_law_odd" p__law_odd (spOdd K) := ⟨⟨_, fd__law_odd, He.glo_ok X G (c.fact 39 (f := .glo "_law_odd") rfl), Fd__law_odd.kp, Fd__law_odd.bindsN (ps := p__law_odd) (fun _ _ _ _ _ _ us hl => match us, hl with | [_, _], _ => rfl), ok_odd Fd__law_odd T G__law_draw⟩⟩
  have G__law_fits : Def P w K mg base CX0 1 "_law_fits" p__law_fits (spFitsL K) := ⟨⟨_, fd__law_fits, He.glo_ok X G (c.fact 40 (f := .glo "_law_fits") rfl), Fd__law_fits.kp, Fd__law_fits.bindsN (ps := p__law_fits) (fun _ _ _ _ _ _ us hl => match us, hl with | [_, _, _], _ => rfl), ok_lfits Fd__law_fits T⟩⟩
  have G__law_enter : Def P w K mg base CX0 1 "_law_enter" p__law_enter (spEnter K) := ⟨⟨_, fd__law_enter, He.glo_ok X G (c.fact 41 (f := .glo "_law_enter") rfl), Fd__law_enter.kp, Fd__law_enter.bindsN (ps := p__law_enter) (fun _ _ _ _ _ _ us hl => match us, hl with | [_, _], _ => rfl), ok_enter Fd__law_enter T⟩⟩
  have G__law_fault : Def P w K mg base CX0 2 "_law_fault" p__law_fault (spFault K) := ⟨⟨_, fd__law_fault, He.glo_ok X G (c.fact 42 (f := .glo "_law_fault") rfl), Fd__law_fault.kp, Fd__law_fault.bindsN (ps := p__law_fault) (fun _ _ _ _ _ _ us hl => match us, hl with | [_], _ => rfl), ok_fault Fd__law_fault T G__law_fits G__law_enter⟩⟩
  have G__law_history : Def P w K mg base CX0 5 "_law_history" p__law_history (spHist K) := ⟨⟨_, fd__law_history, He.glo_ok X G (c.fact 44 (f := .glo "_law_history") rfl), Fd__law_history.kp, Fd__law_history.bindsN (ps := p__law_history) (fun _ _ _ _ _ _ us hl => match us, hl with | [_, _], _ => rfl), ok_history Fd__law_history T G__law_draw G__law_one G__law_word G__law_token G__law_odd G__law_fits G__law_enter⟩⟩
  have G__law_turns : Def P w K mg base CX0 1 "_law_turns" p__law_turns (spTurns K) := ⟨⟨_, fd__law_turns, He.glo_ok X G (c.fact 45 (f := .glo "_law_turns") rfl), Fd__law_turns.kp, Fd__law_turns.bindsN (ps := p__law_turns) (fun _ _ _ _ _ _ us hl => match us, hl with | [_], _ => rfl), ok_turns Fd__law_turns T⟩⟩
  exact ok_law Fd_law T G__law_bag G__law_history S6 G__law_told G__law_no_program G__law_fault G__law_turns G_cut
end
end K13
open PySem PySem.W PySem.Calls PyProof.Rows
theorem PySem.Challenge.cw_openruns_k12_well_formed_histories_holds : PySem.Challenge.rw_openruns_k12_well_formed_histories.Holds := by
  w_on; o_law
  refine HandSHeadRun.head_any (r := K13.Row0) (q := view K13.Row0.prog [141]) (H := K13.hk) (ob := K13.ob) (M := 12000) (loose := K13.loose) (d := HandSHeadRun.topDef K13.Row0.prog 141) (kwd := []) K13.ob_eq
    (by kernel_rfl) (fun s => by kernel_rfl) K13.run (by kernel_rfl) (by kernel_rfl) (by kernel_rfl) (by rfl) (by first | assumption | decide +kernel) (by decide +kernel) ⟨rfl, rfl, rfl, rfl, rfl, by decide +kernel⟩ ?hw ?hc
  case hw => w_witness2
  case hc =>
    refine L2.walk_ofE (l := PySem.Challenge.rw_openruns_k12_well_formed_histories) (n := 63) (k := 9) (x := "_law_script") (CX := L2.CX0) rfl (by decide) (by kernel_rfl) ⟨rfl, by decide, by decide⟩ ?F (fun _ _ _ _ z => z)
    intro w mg fa h Y G hmg0
    obtain ⟨K, KX, c⟩ := Y
    have hmg : mg ("law" : PySem.Str) = some (.ref fa) := by
      have e : (HandSHeadRun.topDef K13.Row0.prog 141).name = ("law" : PySem.Str) := by kernel_rfl
      rw [← e]
      exact hmg0
    obtain ⟨fd, hb, hF⟩ := K13.facts (P := (PySem.Challenge.rw_openruns_k12_well_formed_histories).prog) (w := w) KX G hmg c.more c.t
    exact ⟨K, fd, K13.spLaw K, KX, hb, fun H a ns hl _ hS => ⟨a, ns, rfl, hS, hl, fun _ => rfl⟩, hF⟩
#print axioms PySem.Challenge.cw_openruns_k12_well_formed_histories_holds
