import PyProof.Rows.All
import Wide.All
import OpenK.AllK
import Wide.FinOn
import HandS.ForMost
import HandS.Exc
import HandS.ExcInit
import HandS.ExcField
import HandS.IsInst
import HandS.ExcIs
import KE.KExcInit
import KE.KExcIs
import HandS.Wide
import HandS.HeadHook2
import HandS.HeadEnd
import HandS.Head2
import HandS.ListEq
import HandS.Flow
import HandS.Codes
import HandS.Steps
import HandS.HeadHook4
import HandS.TryOnly
import HandS.Zip
import HandS.Walk
import HandS.SetFor
import HandS.More
import HandS.ClsMeth
import HandS.SetBool
import HandS.DictComp
import HandS.Defaults
import HandS.CallRecv
import HandS.Strs
import HandS.Set
import HandS.SetTxt0
import HandS.SetKeys
import PyProof.Rows.SortShellAny
import HandS.ExcOwn
import HandS.WordsExc
import HandS.TupAny
import HandS.MakeKwOnly
import HandS.TryMany
import PyProof.StrOps2
import HandS.StrMore
import KE.GoesEnum
import PySem.Challenge.RW_openruns_k24_text_arguments
set_option Elab.async false
set_option maxRecDepth 100000
set_option maxHeartbeats 4000000
set_option linter.all false
/-! own errors over LookupError: made, stored into, read, asked for their class -/
namespace L2
open PySem PySem.Spec PyProof.Rows
abbrev leTail : List Value :=
  [.type "LookupError", .type "Exception", .type "BaseException", .type "object"]
/-- what the written part says of an own error class -/
structure ErrC (K : PySem.W.Frag) (C : Addr) : Prop where
  ini : PySem.W.excInitIn K C leTail "LookupError.__new__" = true
  ovr : PySem.W.excOver K C leTail = true
  sa : PySem.W.findIn K (.ref C) "__setattr__" = some (some (.builtin "object.__setattr__"))
  ga : PySem.W.findIn K (.ref C) "__getattribute__"
    = some (some (.builtin "BaseException.__getattribute__"))
  gg : PySem.W.findIn K (.ref C) "__getattr__" = some none
  exC : PySem.W.subIn K (.ref C) (.type "BaseException") = some true
  tyC : PySem.W.typeIn K (.ref C) = some (.type "type")
  kC : PySem.W.keepIn K (.ref C) = true
  hdC : PySem.W.hasDictIn K C = true
  ca : PySem.W.findIn K (.ref C) "__class__" = some (some (.builtin "object.__class__"))
  cg : PySem.W.specialIn K (.builtin "object.__class__") "__get__"
    = some (some (.builtin "getset_descriptor.__get__"))
  ct : PySem.W.takesIn K (.builtin "object.__class__") = some true
  cm : PySem.W.mroIn K C (.type "object") = some true
theorem taker_none {K : PySem.W.Frag} {C : Addr} {f : Str}
    (h : PySem.W.findIn K (.ref C) f = some none) : PySem.W.takerIn K C f = some none := NoAttr.taker h
section
variable {prog : Program} {w : World} {A : Around} {R : Result → Shared → Prop} {hp : Heap} {g : Array GenState}
  {d : Drawn} {t : Nat} {os : OsState} {K : PySem.W.Frag} {C x t0 : Addr} {name : Str} {tk : Tok} {v : Value}
/-- object.__setattr__ on a fresh error: its dict is made -/
theorem sa_new (T : ErrC K C) (X : K.In hp)
    (hx : hp.get? x = some { cls := .ref C, data := .fields #[.ref t0, .none, .none, .none, .bool false, .none] })
    (hno : PySem.W.findIn K (.ref C) name = some none)
    (hq : ∀ h' tk' dx, (∀ b o, b ≠ x → hp.get? b = some o → h'.get? b = some o) → hp.objs.size ≤ dx → dx ≠ x →
      h'.get? x = some { cls := .ref C, dict := some dx, data := .fields #[.ref t0, .none, .none, .none, .bool false, .none] } →
      h'.Ns1 dx (fun y => if y = name then some v else none) → R (.ok (.ret .none)) ⟨h', g, d, tk', os⟩) :
    codeAny (model prog w) A (.call (.builtin "object.__setattr__") ⟨[.ref x, .str name tk, v], []⟩) R
      ⟨hp, g, d, t, os⟩ := by
  have J : PySem.W.InstAt hp x { cls := .ref C, data := .fields #[.ref t0, .none, .none, .none, .bool false, .none] } C none :=
    ⟨hx, rfl, rfl, trivial⟩
  have hne : x ≠ hp.objs.size := Nat.ne_of_lt (Heap.lt_size hx)
  obtain ⟨cd, hcd, hdd⟩ := PySem.W.any_some T.hdC
  refine PySem.W.osa_openX PySem.F.store_LookupError X J T.ovr (taker_none hno) fun b => ?_
  have Lc : PySem.W.Looks (model prog w) hp (classData C) cd := PySem.W.looks_clsIn X hcd
  show wpAny _ _ (Builtin.ObjectAttr.storeInOwnDict (.ref x) (.ref C) (.str name tk) name v b) _ _ _
  unfold Builtin.ObjectAttr.storeInOwnDict Builtin.ObjectAttr.ownDictForStores
  repeat (first | with_reducible refine PySem.HandSPX.store_in_new ?_ ?_ | with_reducible refine wpAny_loadPart_at hx ?_ | with_reducible refine Lc.at ?_ | wp_step)
  · exact ⟨_, #[], _, (Heap.get?_update_ne _ _ _ _ hne.symm).trans (Heap.get?_push_at rfl rfl), rfl,
      fun e he => absurd he (by simp), fun _ => rfl⟩
  · intro h1 t1 ns same
    have hx1 := Heap.get?_push_of_some ({ cls := .type "dict", data := .dict #[] } : Obj) hx
    refine hq h1 t1 hp.objs.size (fun c o hc ho => ?_) (Nat.le_refl _) hne.symm ?_ ns
    · rw [same.2 c (Nat.ne_of_lt (Heap.lt_size ho)), Heap.get?_update_ne _ _ _ _ hc]
      exact Heap.get?_push_of_some _ ho
    · rw [same.2 x hne]
      exact Heap.get?_update_self _ hx1 rfl
/-- object.__setattr__ on an error that has its dict -/
theorem sa_old (T : ErrC K C) (X : K.In hp) {dx : Addr} {m0 : Str → Option Value} {nl : List Str}
    (hx : hp.get? x = some { cls := .ref C, dict := some dx, data := .fields #[.ref t0, .none, .none, .none, .bool false, .none] })
    (hns : hp.Ns1 dx m0) (hw : Within m0 nl) (hz : nl.length ≤ 1000)
    (hno : PySem.W.findIn K (.ref C) name = some none)
    (hq : ∀ h' tk', (∀ b o, b ≠ dx → hp.get? b = some o → h'.get? b = some o) →
      h'.Ns1 dx (fun y => if y = name then some v else m0 y) → R (.ok (.ret .none)) ⟨h', g, d, tk', os⟩) :
    codeAny (model prog w) A (.call (.builtin "object.__setattr__") ⟨[.ref x, .str name tk, v], []⟩) R
      ⟨hp, g, d, t, os⟩ := by
  obtain ⟨oD, _, _, hoD, _, _⟩ := hns.count hw
  have J : PySem.W.InstAt hp x { cls := .ref C, dict := some dx, data := .fields #[.ref t0, .none, .none, .none, .bool false, .none] } C (some oD) :=
    ⟨hx, rfl, rfl, hoD⟩
  obtain ⟨cd, hcd, hdd⟩ := PySem.W.any_some T.hdC
  refine PySem.W.osa_openX PySem.F.store_LookupError X J T.ovr (taker_none hno) fun b => ?_
  have Lc : PySem.W.Looks (model prog w) hp (classData C) cd := PySem.W.looks_clsIn X hcd
  show wpAny _ _ (Builtin.ObjectAttr.storeInOwnDict (.ref x) (.ref C) (.str name tk) name v b) _ _ _
  unfold Builtin.ObjectAttr.storeInOwnDict Builtin.ObjectAttr.ownDictForStores
  repeat (first | with_reducible refine PySem.OEX.store_in_old hns hw hz ?_ | with_reducible refine wpAny_loadPart_at hx ?_ | with_reducible refine Lc.at ?_ | wp_step)
  intro h1 t1 ns same
  exact hq h1 t1 (fun c o hc ho => (same.2 c hc).trans ho) ns
end
end L2

set_option Elab.async false
set_option maxRecDepth 100000
set_option maxHeartbeats 4000000
set_option linter.all false
namespace L2
open PySem PySem.Spec PySem.HandSPX
section
variable {M : Model} {A : Around} {E : Value → Shared → Prop} {h : Heap} {g : Array GenState} {d : Drawn} {t : Nat} {os : OsState}
variable {nm q : Str} {C N : Addr} {bs bm bmB : List Value} {hdct : Bool} {sn : List Str} {sub : List Value} {ab : Bool} {col : Option Bool} {dd : Option Addr} {k0 k1 k2 k3 k5 : Option Value} {B newId initId : String}
theorem check_new_kw (F : ExcBaseFacts B newId initId bmB) (hT : ∀ X : String, bm.contains (.type X) = bmB.contains (.type X)) {rest : List Value} {kw : List (Str × Value)} {Q : Unit → Shared → Prop}
    (hC : h.get? C = some (excClassObj nm q C N bs bm hdct sn sub ab col dd k0 k1 k2 k3 k5 newId)) (hq : Q () ⟨h, g, d, t, os⟩) :
    wpAny M A (checkBuiltinCall newId ⟨.ref C :: rest, kw⟩) Q E ⟨h, g, d, t, os⟩ := by
  have hB : (Value.ref C :: bm).contains (.type B) = true := by rw [List.contains_cons, hT, F.hasB, Bool.or_true]
  have hS := F.noStar
  simp only [checkBuiltinCall, F.newKind, F.newSplit, F.newRow]
  repeat (first | refine wpAny_loadPart_at hC ?_ | (refine wpAny_isSubtype_exc hC ?_; rw [hB]) | refine wpAny_staticBase_exc hC ?_ | refine wpAny_madeBy_exc hC ?_ | simp only [bne_self_eq_false, Bool.false_eq_true, if_false] | wp_step)
  exact hq
end
section
variable {prog : Program} {w : World} {A : Around} {E : Value → Shared → Prop} {R : Result → Shared → Prop} {h : Heap} {g : Array GenState} {d : Drawn} {t : Nat} {os : OsState}
variable {nm q : Str} {C N : Addr} {bs bm bmB : List Value} {hdct : Bool} {sn : List Str} {sub : List Value} {ab : Bool} {col : Option Bool} {dd : Option Addr} {k0 k1 k2 k3 k5 : Option Value} {B newId initId : String}
theorem new_kw (F : ExcBaseFacts B newId initId bmB) (hT : ∀ X : String, bm.contains (.type X) = bmB.contains (.type X)) {rest : List Value} {kw : List (Str × Value)}
    (hC : h.get? C = some (excClassObj nm q C N bs bm hdct sn sub ab col dd k0 k1 k2 k3 k5 newId)) (hr : rest.length ≤ sizeLine)
    (hq : R (.ok (.ret (.ref (h.objs.size + 1)))) ⟨(h.push (PySem.W.kdv_tup rest)).push (excO C h.objs.size), g, d, t, os⟩) :
    codeAny (model prog w) A (.builtin newId ⟨.ref C :: rest, kw⟩) R ⟨h, g, d, t, os⟩ := by
  have hE := F.ends
  have hB : (Value.ref C :: bm).contains (.type B) = true := by rw [List.contains_cons, hT, F.hasB, Bool.or_true]
  have hA : (Value.ref C :: bm).contains (.type "AttributeError") = false := by rw [List.contains_cons, hT, F.noAttr]; rfl
  have hN : (Value.ref C :: bm).contains (.type "NameError") = false := by rw [List.contains_cons, hT, F.noName]; rfl
  refine codeAny_builtinAt F.entry ?_
  unfold Builtin.«BaseException.__new__»
  refine wpAt_bind ?_
  show wpAt _ _ _ (stack >>= _) _ _ _
  refine wpAt_bind (wpAt_stack fun p below => wpAt_of_wpAny ?_)
  wp_walk
  refine wpAt_of_wpAny ?_
  rw [F.owner]
  repeat (first | with_reducible refine wpAny_madeHere_exc F.canon hC ?_ | with_reducible refine wpAny_loadPart_at hC ?_ | (with_reducible refine wpAny_isSubtype_exc hC ?_; first | rw [hB] | rw [hA] | rw [hN]) | wp_step)
  show R _ _
  rw [Heap.size_push]
  exact hq
theorem type_call_kw (F : ExcBaseFacts B newId initId bmB) (hT : ∀ X : String, bm.contains (.type X) = bmB.contains (.type X)) {rest : List Value} {kw : List (Str × Value)} {fI : Addr} {Q : Fin → Shared → Prop}
    (hC : h.get? C = some (excClassObj nm q C N bs bm hdct sn sub ab col dd k0 k1 k2 k3 k5 newId))
    (hi : W.Looks (model prog w) h (typeLookup (.ref C) "__init__") (some (.ref fI))) (hb : ∀ self, W.Looks (model prog w) h (bindSpecial (.ref fI) self) (.ref fI, [self])) (hr : rest.length ≤ sizeLine)
    (hq : codeAny (model prog w) A (.call (.ref fI) ⟨.ref (h.objs.size + 1) :: rest, kw⟩)
      (fun r s' => match r with | .ok (.ret v) => v = .none ∧ Q (.done (.ret (.ref (h.objs.size + 1)))) s' | .ok _ => False | .error e => E e s')
      ⟨(h.push (PySem.W.kdv_tup rest)).push (excO C h.objs.size), g, d, t, os⟩) :
    wpAny (model prog w) A (Builtin.«type.__call__» ⟨.ref C :: rest, kw⟩) Q E ⟨h, g, d, t, os⟩ := by
  repeat (first | with_reducible refine wpAny_loadPart_at hC ?_ | with_reducible refine wpAny_madeBy_exc hC ?_ | wp_step)
  refine codeAny_call_builtin_code (Code.quiet_builtin _ F.quiet) (check_new_kw F hT hC ?_)
  refine new_kw F hT hC hr ?_
  show wpAny _ _ _ _ _ _
  have kp : ∀ b o, h.get? b = some o → ((h.push (PySem.W.kdv_tup rest)).push (excO C h.objs.size)).get? b = some o := fun b o e => Heap.get?_push_of_some _ (Heap.get?_push_of_some _ e)
  have hC1 := kp _ _ hC
  have hx : ((h.push (PySem.W.kdv_tup rest)).push (excO C h.objs.size)).get? (h.objs.size + 1) = some (excO C h.objs.size) := by heap_get
  have hcc : (Value.ref C :: bm).contains (.ref C) = true := by simp
  have i1 := hi.keeps kp
  have b1 := (hb (.ref (h.objs.size + 1))).keeps kp
  unfold isInstance
  repeat (first | with_reducible refine wpAny_loadPart_at hx ?_ | (with_reducible refine wpAny_isSubtype_exc hC1 ?_; rw [hcc]) | wp_step)
  show wpAny _ _ (typeLookup (.ref C) _) _ _ _
  refine i1.at ?_
  refine wpAny_holding (wpAny_bind (b1.at ?_))
  refine wpAny_bind (wpAny_call (codeAny_mono hq fun r s' z => ?_))
  rcases r with e | (v | _ | _ | _) <;> first | exact z | exact z.elim | skip
  obtain ⟨rfl, z⟩ := z
  first
    | exact wpAny_pure (wpAny_pure z)
    | (wp_walk; exact z)
theorem call_kw (F : ExcBaseFacts B newId initId bmB) (hT : ∀ X : String, bm.contains (.type X) = bmB.contains (.type X)) {rest : List Value} {kw : List (Str × Value)} {fI : Addr}
    (hC : h.get? C = some (excClassObj nm q C N bs bm hdct sn sub ab col dd k0 k1 k2 k3 k5 newId))
    (hi : W.Looks (model prog w) h (typeLookup (.ref C) "__init__") (some (.ref fI))) (hb : ∀ self, W.Looks (model prog w) h (bindSpecial (.ref fI) self) (.ref fI, [self])) (hr : rest.length ≤ sizeLine)
    (hq : codeAny (model prog w) (A.under (.builtin "type.__call__" ⟨.ref C :: rest, kw⟩)) (.call (.ref fI) ⟨.ref (h.objs.size + 1) :: rest, kw⟩) (W.InitBack (h.objs.size + 1) R)
      ⟨(h.push (PySem.W.kdv_tup rest)).push (excO C h.objs.size), g, d, t, os⟩) :
    codeAny (model prog w) A (.call (.ref C) ⟨rest, kw⟩) R ⟨h, g, d, t, os⟩ := by
  have f1 := tc_lookup
  have f2 := tc_bind (.ref C)
  have hTy : (⟨h, g, d, t, os⟩ : Shared).TypeIs (.ref C) "type" := ⟨_, hC, rfl⟩
  refine codeAny_of_tree ?_
  show wpAny _ _ (callAny (.ref C) _) _ _ _
  repeat (any_goals (first | assumption | with_reducible refine wpAny_loadPart_at hC ?_ | wp_step))
  refine ⟨rfl, ?_⟩
  refine codeAny_call_builtin_at (Code.quiet_builtin _ (by decide +kernel)) entry_typeCall (wpAny_check_type_call_sub hC (type_call_kw F hT hC hi hb hr ?_))
  refine codeAny_mono hq fun r s' z => ?_
  rcases r with e | (v | _ | _ | _) <;> exact z
end
end L2

set_option Elab.async false
set_option maxRecDepth 100000
set_option maxHeartbeats 4000000
set_option linter.all false
namespace L2
open PySem PySem.Spec PyProof.Rows
section
variable {X : Cx} {pins : List (Addr × Obj)} {σ : St} {H : Hp} {s : Shared} {a C dx : Addr} {f : Str} {y : V} {u : Value}
  {fs : List (Str × V)} {Q : Unit → Shared → Prop} {E : Value → Shared → Prop} {A : Around}
/-- the error at a gets its dict at dx, both tracked -/
theorem swap_un {hp h' : Heap} {ex : List Addr} (fr : List Addr) (hok : HOk X.prog X.w H hp) (e : H a = some (exo a C none)) (dn : hp.objs.size ≤ dx)
    (kp : ∀ b o, b ≠ a → hp.get? b = some o → h'.get? b = some o) (ha : ∃ o, h'.get? a = some o) :
    Un fr ex H (upd (upd H dx (exd dx fs)) a (exo a C (some dx))) hp h' := by
  have nd : H dx = none := hok.fresh dn
  have old : ∀ {b : Addr} {o : Obj}, hp.get? b = some o → b ≠ dx := fun z => Nat.ne_of_lt (Nat.lt_of_lt_of_le (Heap.lt_size z) dn)
  have na : ∀ {b : Addr}, H b = none → b ≠ a := fun n z => by rw [z, e] at n; cases n
  have kind : ∀ {b : Addr} {o : HO}, H b = some o → exo a C none ≠ o → upd (upd H dx (exd dx fs)) a (exo a C (some dx)) b = some o := fun {b o} z d => by
    rw [upd_ne (at_ne e z d), upd_ne (ne_of_none z nd)]
    exact z
  exact {
    keep := fun b o z n _ _ => kp b o (na n) z
    slot := fun b o z n _ _ => ⟨o.slots, kp b o (na n) z⟩
    free := fun b o z n _ => by
      rw [upd_ne (na n), upd_ne (old z)]
      exact n
    there := fun b o z _ => by
      rcases Decidable.em (b = a) with q | q
      · rw [q]; exact ha
      · exact ⟨o, kp b o q z⟩
    tups := fun b xs z => kind z exo_tup
    frzs := fun b o v z => kind z exo_frz
    tbls := fun b ps z => ⟨#[], by rw [kind z exo_tbl]; simp⟩ }
theorem swap_ok {hp h' : Heap} {t1 : Addr} {mA : Str → Option Value} (hok : HOk X.prog X.w H hp) (e : H a = some (exo a C none)) (dn : hp.objs.size ≤ dx)
    (kp : ∀ b o, b ≠ a → hp.get? b = some o → h'.get? b = some o)
    (ha : h'.get? a = some { cls := .ref C, dict := some dx, data := .fields #[.ref t1, .none, .none, .none, .bool false, .none] })
    (hn : h'.Ns1 dx mA) (r : ∀ g, RelO (fs.lookup g) (mA g)) : HOk X.prog X.w (upd (upd H dx (exd dx fs)) a (exo a C (some dx))) h' := by
  have nd : H dx = none := hok.fresh dn
  intro b o q
  rcases Decidable.em (b = a) with z | z
  · subst z
    rw [upd_same] at q
    cases q
    exact exo_ok ha
  · rw [upd_ne z] at q
    rcases Decidable.em (b = dx) with z2 | z2
    · subst z2
      rw [upd_same] at q
      cases q
      exact exd_ok hn r
    · rw [upd_ne z2] at q
      have far : ∀ {c : Addr} {u : HO}, H c = some u → exo a C none ≠ u → upd (upd H dx (exd dx fs)) a (exo a C (some dx)) c = some u := fun {c u} k d => by
        rw [upd_ne (at_ne e k d), upd_ne (ne_of_none k nd)]
        exact k
      exact (hok b o q).stay (fun c v hc k => kp c v (by rcases hc with hc | hc; exact hc ▸ z; exact at_ne e hc exo_own) k)
        (fun c hc => far hc exo_own) (fun c xs hc => far hc exo_tup)
/-- self.f = y, the first store -/
theorem put_new (T : ErrC X.K C) (I : Inv X pins σ H s) (e : H a = some (exo a C none)) (hno : PySem.W.findIn X.K (.ref C) f = some none) (ry : RelV y u)
    (h : ∀ dx s', H dx = none → dx ≠ a → Inv X pins σ (upd (upd H dx (exd dx [(f, y)])) a (exo a C (some dx))) s' → Q () s') :
    wpAny (model X.prog X.w) A (setAttr (.ref a) f u) Q E s := by
  obtain ⟨t1, ho⟩ := exo_at I.hok e
  obtain ⟨hp, g, d, t, os⟩ := s
  refine PySem.W.set_plain I.kIn (od := none) ⟨ho, rfl, rfl, trivial⟩ T.sa ?_
  refine sa_new T I.kIn ho hno fun h' tk' dx k dn dne hx hn => ?_
  exact h dx _ (I.hok.fresh dn) dne (I.un (t' := tk') (swap_un _ I.hok e dn k ⟨_, hx⟩) (swap_ok I.hok e dn k hx hn (relO_put (fs := []) ry fun _ => True.intro)))
/-- self.f = y, a further store -/
theorem put_old (T : ErrC X.K C) (I : Inv X pins σ H s) (e : H a = some (exo a C (some dx))) (ed : H dx = some (exd dx fs)) (hl : fs.length ≤ 900)
    (hno : PySem.W.findIn X.K (.ref C) f = some none) (ry : RelV y u)
    (h : ∀ s', Inv X pins σ (upd H dx (exd dx ((f, y) :: fs))) s' → Q () s') : wpAny (model X.prog X.w) A (setAttr (.ref a) f u) Q E s := by
  obtain ⟨t1, ho⟩ := exo_at I.hok e
  obtain ⟨mA, hns, rel⟩ := exd_at I.hok ed
  have hw := within_of rel
  obtain ⟨hp, g, d, t, os⟩ := s
  obtain ⟨oD, _, _, hoD, _, _⟩ := hns.count hw
  refine PySem.W.set_plain I.kIn (od := some oD) ⟨ho, rfl, rfl, hoD⟩ T.sa ?_
  refine sa_old T I.kIn ho hns hw (by rw [List.length_map]; omega) hno fun h' tk' k hn => ?_
  have there : ∃ o, h'.get? dx = some o := let ⟨o, _, _, z, _⟩ := hn; ⟨o, z⟩
  exact h _ (I.write (t' := tk') (x := dx) (e := dx) (by rw [ed]; exact True.intro) (.inl rfl) k there (exd_ok hn (relO_put ry rel)))
end
/-- self.f = e in an own error's __init__ -/
def tPut (K : PySem.W.Frag) (f : Str) (to te : TE) : TS := fun D σ H => te σ H fun y H1 => to σ H1 fun x H2 => ∃ a C : Addr, x = .ref a ∧ ErrC K C ∧
  PySem.W.findIn K (.ref C) f = some none ∧
  ((H2 a = some (exo a C none) ∧ ∀ dx, H2 dx = none → dx ≠ a → D.nx σ (upd (upd H2 dx (exd dx [(f, y)])) a (exo a C (some dx)))) ∨
    ∃ (dx : Addr) (fs : List (Str × V)), H2 a = some (exo a C (some dx)) ∧ H2 dx = some (exd dx fs) ∧ fs.length ≤ 900 ∧ D.nx σ (upd H2 dx (exd dx ((f, y) :: fs))))
theorem ps_put {X : Cx} {o e : Expr} {to te : TE} {f : Str} {p' pos : Pos} (ho : PE X o to) (he : PE X e te)
    (hs : swapsWith e (some (.Attribute o f p')) pos.line X.env = pure false := by rfl) : PS X (.Assign [.Attribute o f p'] e pos) (tPut X.K f to te) := by
  refine ⟨fun pins s σ H D I h => ?_⟩
  refine plainObj_wpAny_Assign_Attribute (thn (he.run pins s σ H _ I h) fun v s1 ⟨y, H1, I1, r1, q1⟩ => thn (ho.run pins s1 σ H1 _ I1 q1) fun u s2 ⟨x, H2, I2, r2, q2⟩ => ?_) hs
  obtain ⟨a, C, ex, T, hno, q⟩ := q2
  subst ex
  obtain rfl : u = Value.ref a := r2
  rcases q with ⟨ea, q⟩ | ⟨dx, fs, ea, ed, hl, q⟩
  · exact put_new T I2 ea hno r1 fun dx s' n ne J => ⟨σ, _, J, q dx n ne⟩
  · exact put_old T I2 ea ed hl hno r1 fun s' J => ⟨σ, _, J, q⟩
/-- what __init__ of an own error promises: its values stand in its dict -/
def spErr (C : Addr) (fns : List Str) : Sp := fun vs H Q _ => ∃ (a : Addr) (ws : List V), vs = .ref a :: ws ∧ ws.length = fns.length ∧ H a = some (exo a C none) ∧
  ∀ dx H', H dx = none → dx ≠ a → H' dx = some (exd dx (fns.zip ws).reverse) → H' a = some (exo a C (some dx)) → (∀ b, b ≠ a → b ≠ dx → H' b = H b) → Q .non H'
/-- C(e, ..), C an own error class: a new error and its dict -/
def tNew (C : Addr) (fns : List Str) (ta : TA) : TE := fun σ H Q => ta σ H fun vs H1 => vs.length = fns.length ∧
  ∀ a dx H', H1 a = none → H1 dx = none → dx ≠ a → H' dx = some (exd dx (fns.zip vs).reverse) → H' a = some (exo a C (some dx)) → (∀ b, b ≠ a → b ≠ dx → H' b = H1 b) → Q (.ref a) H'
section
variable {X : Cx} {CX : CXT} {k : Nat} {fI C : Addr} {fd : FuncData} {fns ps : List Str} {x : Str} {p pos : Pos} {e : Expr} {es : List Expr} {ta : TA}
/-- an own error class whose __init__ keeps that promise -/
structure MkE (X : Cx) (CX : CXT) (k : Nat) (C fI : Addr) (fd : FuncData) (ps fns : List Str) : Prop where
  T : ErrC X.K C
  iC : PySem.W.findIn X.K (.ref C) "__init__" = some (some (.ref fI))
  tI : PySem.W.typeIn X.K (.ref fI) = some (.type "function")
  F : FnOk X.prog X.w X.K X.mg X.base CX k fI fd ps (spErr C fns)
  few : fns.length ≤ 1000
theorem run_new {pins : List (Addr × Obj)} {σ : St} {H : Hp} {s : Shared} {Q : VK} {us all : List Value} {vs : List V} {kw : List (Str × Value)} (M : MkE X CX k C fI fd ps fns) (hr : Room (k + 1) X.A) (hx : Passes CX X E0) (I : Inv X pins σ H s)
    (hb : ∀ (s : Shared) (e : Value), X.K.In s.heap → BindsTo s fd ⟨e :: us, kw⟩ (ps.zip (e :: all))) (hus : us.length ≤ sizeLine)
    (r : Vals vs all) (hl : vs.length = fns.length)
    (h : ∀ a dx H', H a = none → H dx = none → dx ≠ a → H' dx = some (exd dx (fns.zip vs).reverse) → H' a = some (exo a C (some dx)) → (∀ b, b ≠ a → b ≠ dx → H' b = H b) → Q (.ref a) H') :
    wpAny (model X.prog X.w) X.A (call (.ref C) us kw) (EP X pins σ Q) X.xe s := by
  obtain ⟨nm, N, qn, bs, bm, hdct, sn, sub, ab, col, dd, k0, k1, k2, k3, k5, hC, hT⟩ := PySem.W.excInit_of I.kIn M.T.ini
  obtain ⟨hp, g, dr, tk, os⟩ := s
  have hsz : hp.objs.size ≤ hp.objs.size + 1 := Nat.le_succ _
  have hn : H (hp.objs.size + 1) = none := I.hok.fresh hsz
  have kk : ∀ b o, hp.get? b = some o → ((hp.push (PySem.W.kdv_tup us)).push (PySem.HandSPX.excO C hp.objs.size)).get? b = some o := fun b o z => Heap.get?_push_of_some _ (Heap.get?_push_of_some _ z)
  have hget : ((hp.push (PySem.W.kdv_tup us)).push (PySem.HandSPX.excO C hp.objs.size)).get? (hp.objs.size + 1) = some (PySem.HandSPX.excO C hp.objs.size) := by heap_get
  have J : Inv X pins σ (upd H (hp.objs.size + 1) (exo (hp.objs.size + 1) C none)) ⟨(hp.push (PySem.W.kdv_tup us)).push (PySem.HandSPX.excO C hp.objs.size), g, dr, tk, os⟩ :=
    I.laid (t' := tk) kk hsz (exo_ok hget)
  have sp : spErr C fns (.ref (hp.objs.size + 1) :: vs) (upd H (hp.objs.size + 1) (exo (hp.objs.size + 1) C none)) (fun v H2 => v = .non ∧ Q (.ref (hp.objs.size + 1)) H2) E0 := by
    refine ⟨_, vs, rfl, hl, upd_same, fun dx H' nd ne e1 e2 e3 => ⟨rfl, h _ dx H' hn ?_ ne e1 e2 fun b h1 h2 => ?_⟩⟩
    · rw [upd_ne ne] at nd
      exact nd
    · rw [e3 b h1 h2, upd_ne h1]
  have r2 : Vals (V.ref (hp.objs.size + 1) :: vs) (Value.ref (hp.objs.size + 1) :: all) := .cons rfl r
  refine wpAny_call (call_kw PySem.F.excBase_LookupError hT hC (PySem.W.looks_findIn I.kIn M.iC) (fun self => PySem.W.bind_fn I.kIn self M.tI) hus
    (codeAny_mono (M.F.run _ X.stack _ _ ⟨Value.ref (hp.objs.size + 1) :: us, kw⟩ (Value.ref (hp.objs.size + 1) :: all) _ _ E0 (hr.make C us kw) (J.env0.make C us kw) (hb _ _ J.kIn) r2 sp) fun r s' hq' => ?_))
  cases r with
  | error er => exact hx pins σ _ _ er s' J hq'
  | ok fl =>
    cases fl with
    | ret u =>
      obtain ⟨v, H', I3, rv, ev, q3⟩ := J.after hq'
      subst ev
      exact ⟨rv, ⟨V.ref (hp.objs.size + 1), H', I3, rfl, q3⟩⟩
    | next => exact False.elim hq'
    | brk => exact False.elim hq'
    | cont => exact False.elim hq'
theorem pe_new (M : MkE X CX k C fI fd ps fns) (hr : Room (k + 1) X.A) (hg : Gl X x) (hm : X.mg x = some (.ref C)) (hb : Binds X.K fd ps []) (hp : ps.length = fns.length + 1) (hx : Passes CX X E0)
    (ha : PA X (e :: es) ta) (hdb : (x == ("__debug__" : Str)) = false := by decide) (he : starEach (e :: es) X.env = (false, eval e X.env) :: starEach es X.env := by rfl)
    (hpl : (backTo pos (starEach es X.env)).any (·.1) = false := by rfl) : PE X (.Call (.Name x p) (e :: es) [] pos) (tNew C fns ta) := by
  refine ⟨fun pins s σ H Q I h => ?_⟩
  refine wpAny_Call_Name_kw (ld_glob I hg hm ?_ hdb)
  refine PySem.W.callWith_K (h₀ := X.base) I.ok.mod.kin M.T.kC (thn (ha.run pos pins s σ H _ I h) fun us s1 ⟨vs, H1, I1, r, hl, q⟩ => ⟨I1.kIn, ?_⟩) he hpl
  have lu : us.length = fns.length := r.length.symm.trans hl
  refine run_new (all := us) M hr hx I1 (fun s e0 X0 => ?_) (by show us.length ≤ sizeLine; rw [lu, sizeLine_eq]; have := M.few; omega) r hl q
  have b := hb s (e0 :: us) X0 (by rw [List.append_nil, List.length_cons, lu, hp])
  rw [List.append_nil] at b
  exact b
/-- C(k = e, ..): g puts the keywords' values in the order of the parameters -/
theorem pe_newK {kws : List Keyword} {ks : List Str} {tk : TA} {g : {α : Type} → List α → List α} (M : MkE X CX k C fI fd ps fns) (hr : Room (k + 1) X.A) (hg : Gl X x) (hm : X.mg x = some (.ref C))
    (hb : ∀ (s : Shared) (e : Value) (ws : List Value), X.K.In s.heap → ws.length = fns.length → BindsTo s fd ⟨[e], ks.zip ws⟩ (ps.zip (e :: g ws)))
    (hrel : ∀ {zs : List V} {ws : List Value}, Vals zs ws → zs.length = fns.length → Vals (g zs) (g ws)) (hlen : ∀ zs : List V, zs.length = fns.length → (g zs).length = fns.length) (hx : Passes CX X E0)
    (hkw : PK X kws tk) (hall : (backToKw pos (keywordEach kws X.env)).all (·.1.isSome) = true := by rfl) (hks : (backToKw pos (keywordEach kws X.env)).filterMap (·.1) = ks := by rfl)
    (hdb : (x == ("__debug__" : Str)) = false := by decide)
    (hpl : ((backTo pos (starEach [] X.env)).any (·.1) || (backToKw pos (keywordEach kws X.env)).any (·.1.isNone)) = false := by rfl) :
    PE X (.Call (.Name x p) [] kws pos) (tNew C fns fun σ H Q => tk σ H fun zs H1 => zs.length = fns.length ∧ Q (g zs) H1) := by
  refine ⟨fun pins s σ H Q I h => ?_⟩
  refine wpAny_Call_Name_kw (ld_glob I hg hm ?_ hdb)
  refine PySem.W.callWith_KW0 (h₀ := X.base) I.ok.mod.kin M.T.kC hall ?_ hpl
  refine thn (hkw.run pos pins s σ H _ I h) fun ws s2 ⟨zs, H2, I2, rz, lz, l2, q2⟩ => ⟨I2.kIn, ?_⟩
  rw [hks]
  exact run_new (us := []) (all := g ws) M hr hx I2 (fun s e0 X0 => hb s e0 ws X0 (rz.length.symm.trans lz)) (by show 0 ≤ sizeLine; exact Nat.zero_le _) (hrel rz lz) l2 q2
/-- e.f, e an own error -/
def tEf (C : Addr) (f : Str) (te : TE) : TE := fun σ H Q => te σ H fun x H1 => ∃ (a dx : Addr) (fs : List (Str × V)) (v : V), x = .ref a ∧ H1 a = some (exo a C (some dx)) ∧ H1 dx = some (exd dx fs) ∧ fs.lookup f = some v ∧ Q v H1
theorem pe_ef {te : TE} {f : Str} (T : ErrC X.K C) (hno : PySem.W.findIn X.K (.ref C) f = some none) (he : PE X e te)
    (hb : attributeBase e f X.env (eval e X.env) = eval e X.env := by rfl) : PE X (.Attribute e f pos) (tEf C f te) := by
  refine ⟨fun pins s σ H Q I h => ?_⟩
  refine attr_of hb (thn (he.run pins s σ H _ I h) fun u s1 hh => ?_)
  obtain ⟨x, H1, I1, rx, a, dx, fs, v, ex, ea, ed, l, q⟩ := hh
  subst ex
  obtain rfl : u = Value.ref a := rx
  obtain ⟨t1, ho⟩ := exo_at I1.hok ea
  obtain ⟨mA, hns, hr⟩ := exd_at I1.hok ed
  obtain ⟨od, hod, hl⟩ := lookIn_ns hns
  obtain ⟨u, hu, ru⟩ := RelO.some_of (v := v) (o := mA f) (by rw [← l]; exact hr f)
  have J : PySem.W.InstAt s1.heap a _ C (some od) := ⟨ho, rfl, rfl, hod⟩
  exact HandSPX.exc_get I1.kIn J T.ga T.gg T.exC (PySem.W.findObj_own T.hdC hno rfl (by rw [hl, hu])) (handed_of ru) ⟨v, H1, I1.tok _, ru, q⟩
end
end L2

set_option Elab.async false
set_option maxRecDepth 100000
set_option maxHeartbeats 4000000
set_option linter.all false
namespace L2
open PySem PySem.Spec PyProof.Rows
/-! ### isinstance of an own error that has its dict -/
def rIsErr (K : PySem.W.Frag) (C : Addr) : List V → Hp → VK → Prop := fun xs H Q => ∃ (a dx : Addr) (fs : List (Str × V)) (c : V) (u : Value) (b : Bool),
  xs = [.ref a, c] ∧ H a = some (exo a C (some dx)) ∧ H dx = some (exd dx fs) ∧ ClsV c u ∧ PySem.W.kitOne K (.ref C) u = some b ∧ Q (.bl b) H
theorem call_isErr {X : Cx} {C : Addr} (T : ErrC X.K C) : CallR X (.builtin "isinstance") (rIsErr X.K C) := by
  intro pins s σ H xs us Q I r h
  obtain ⟨a, dx, fs, c, u, b, rfl, ea, ed, k, e, q⟩ := h
  obtain ⟨u1, u2, rfl, r1, r2⟩ := vals2 r
  cases (show u1 = Value.ref a from r1)
  have e2 := k.eq r2
  subst e2
  obtain ⟨t1, ho⟩ := exo_at I.hok ea
  obtain ⟨mA, hns, hr⟩ := exd_at I.hok ed
  obtain ⟨od, hod, hl⟩ := lookIn_ns hns
  have J : PySem.W.InstAt s.heap a _ C (some od) := ⟨ho, rfl, rfl, hod⟩
  obtain ⟨cd, hcd, _⟩ := PySem.W.any_some T.hdC
  exact PySem.W.kia_one (PySem.W.kitx_exc (by rw [hcd]; rfl) T.ga T.gg T.exC T.ca T.cg T.ct T.cm) I.kIn J e (fun z => nomatch z) fun tk => ⟨.bl b, H, I.tok tk, rfl, q⟩
/-! ### a power of a greater number -/
def CPowW (i j : Int) : Prop := i.natAbs.log2 < 1000 ∧ 0 ≤ j ∧ j ≤ 1000
theorem op_powW {X : Cx} : OpR X (binaryOp .Pow) (rI CPowW fun i j => .int (i ^ j.toNat)) := opI fun i j t u s Q E hc q => by
  obtain ⟨h1, h2, h3⟩ := hc
  have z : bitsLine = 134217728 := by decide
  have b : Builtin.Int.intBits i ≤ i.natAbs.log2 + 1 := by
    unfold Builtin.Int.intBits
    split <;> omega
  refine pow_int h2 ?_ q
  have c : (Builtin.Int.intBits i : Int) ≤ 1000 := by omega
  have m := Int.mul_le_mul c h3 h2 (by decide : (0 : Int) ≤ 1000)
  exact Int.le_trans m (by decide)
end L2
namespace He
open PySem PySem.Spec PyProof.Rows L2
/-! ### own errors by the head -/
/-- what the head tells of an own error class -/
def errB (K : PySem.W.Frag) (C : Addr) : Bool :=
  PySem.W.excInitIn K C leTail "LookupError.__new__" && (PySem.W.excOver K C leTail &&
  (eqO (PySem.W.findIn K (.ref C) "__setattr__") (some (some (.builtin "object.__setattr__"))) &&
  (eqO (PySem.W.findIn K (.ref C) "__getattribute__") (some (some (.builtin "BaseException.__getattribute__"))) &&
  (eqO (PySem.W.findIn K (.ref C) "__getattr__") (some none) &&
  (decide (PySem.W.subIn K (.ref C) (.type "BaseException") = some true) && (decide (PySem.W.typeIn K (.ref C) = some (.type "type")) &&
  (PySem.W.keepIn K (.ref C) && (PySem.W.hasDictIn K C &&
  (eqO (PySem.W.findIn K (.ref C) "__class__") (some (some (.builtin "object.__class__"))) &&
  (eqO (PySem.W.specialIn K (.builtin "object.__class__") "__get__") (some (some (.builtin "getset_descriptor.__get__"))) &&
  (decide (PySem.W.takesIn K (.builtin "object.__class__") = some true) && decide (PySem.W.mroIn K C (.type "object") = some true))))))))))))
theorem errB_ok {K : PySem.W.Frag} {C : Addr} (h : errB K C = true) : ErrC K C := by
  obtain ⟨h1, h⟩ := ba h
  obtain ⟨h2, h⟩ := ba h
  obtain ⟨h3, h⟩ := ba h
  obtain ⟨h4, h⟩ := ba h
  obtain ⟨h5, h⟩ := ba h
  obtain ⟨h6, h⟩ := ba h
  obtain ⟨h7, h⟩ := ba h
  obtain ⟨h8, h⟩ := ba h
  obtain ⟨h9, h⟩ := ba h
  obtain ⟨h10, h⟩ := ba h
  obtain ⟨h11, h⟩ := ba h
  obtain ⟨h12, h13⟩ := ba h
  exact ⟨h1, h2, eqO_ok h3, eqO_ok h4, eqO_ok h5, of_decide_eq_true h6, of_decide_eq_true h7, h8, h9, eqO_ok h10, eqO_ok h11, of_decide_eq_true h12, of_decide_eq_true h13⟩
/-- .. and of its __init__ -/
def iniB (K : PySem.W.Frag) (C : Addr) : Bool :=
  eqO (PySem.W.findIn K (.ref C) "__init__") (some (some (.ref (ma K C "__init__")))) &&
  decide (PySem.W.typeIn K (.ref (ma K C "__init__")) = some (.type "function"))
end He

set_option Elab.async false
set_option maxRecDepth 100000
set_option maxHeartbeats 4000000
set_option linter.all false
namespace L2
open PySem PySem.Spec PyProof.Rows
/-! ### a def of the module by its name -/
structure Def (P : Program) (w : World) (K : PySem.W.Frag) (mg : Str → Option Value) (base : Heap) (CX : CXT) (k : Nat) (x : Str) (ps : List Str) (sp : Sp) : Prop where
  ex : ∃ (f : Addr) (fd : FuncData), mg x = some (.ref f) ∧ PySem.W.keepIn K (.ref f) = true ∧ Binds K fd ps [] ∧ FnOk P w K mg base CX k f fd ps sp
section
variable {X : Cx} {CX : CXT} {k : Nat} {ps : List Str} {sp : Sp} {E : XK} {x : Str} {p pos : Pos} {e : Expr} {es : List Expr} {t : TA}
theorem pe_ref {a : Addr} {pos : Pos} (hg : Gl X x) (hm : X.mg x = some (.ref a)) (hd : (x == ("__debug__" : Str)) = false := by decide) : PE X (.Name x pos) (tC (.ref a)) :=
  pe_glob hg hm (show RelV (.ref a) (Value.ref a) from rfl) hd
theorem pe_fn (c : Def X.prog X.w X.K X.mg X.base CX k x ps sp) (hr : Room k X.A) (hg : Gl X x) (hx : Passes CX X E) (ha : PA X (e :: es) t)
    (hdb : (x == ("__debug__" : Str)) = false := by decide) (he : starEach (e :: es) X.env = (false, eval e X.env) :: starEach es X.env := by rfl)
    (hpl : (backTo pos (starEach es X.env)).any (·.1) = false := by rfl) : PE X (.Call (.Name x p) (e :: es) [] pos) (tCall sp [] E t) := by
  obtain ⟨f, fd, hm, hk, hb, F⟩ := c.ex
  exact pe_call F hr hg hm hk hb .nil hx ha hdb he hpl
theorem pe_fn0 (c : Def X.prog X.w X.K X.mg X.base CX k x ps sp) (hr : Room k X.A) (hg : Gl X x) (hx : Passes CX X E)
    (hdb : (x == ("__debug__" : Str)) = false := by decide) : PE X (.Call (.Name x p) [] [] pos) (tCall sp [] E tNil) := by
  obtain ⟨f, fd, hm, hk, hb, F⟩ := c.ex
  exact pe_call0 F hr hg hm hk hb .nil hx hdb
end
/-! ### __init__ of an own error: it stores what it is given -/
section
variable {P : Program} {w : World} {K : PySem.W.Frag} {mg : Str → Option Value} {base : Heap}
theorem ok_ini1 {C f : Addr} {fd : FuncData} {fn qual : Str} {params : Arguments} {scope : Scope} {p1 p2 p3 p4 : Pos}
    (F : FunD K "__init__" qual params [.Assign [.Attribute (.Name "self" p1) fn p2] (.Name fn p3) p4] scope [] [] f fd) (S : FnScope ["self", fn] ["self", fn] scope)
    (v1 : scope.names.lookup ("self" : Str) = some NameKind.local) (v2 : scope.names.lookup fn = some NameKind.local) (d1 : (fn == ("__debug__" : Str)) = false) (d2 : (fn == ("__classdict__" : Str)) = false)
    (T : ErrC K C) (hno : PySem.W.findIn K (.ref C) fn = some none) : FnOk P w K mg base CX0 1 f fd ["self", fn] (spErr C [fn]) := by
  refine F.ok S (fun vs H Q E h => ?_) (fun cdv A outer s H vs Q E hr h => ?_)
  · obtain ⟨a, ws, rfl, hl, _⟩ := h
    rw [List.length_cons, hl] <;> rfl
  · obtain ⟨a, ws, rfl, hl, ha, k⟩ := h
    obtain ⟨y, rfl⟩ : ∃ y, ws = [y] := by
      match ws, hl with
      | [y], _ => exact ⟨y, rfl⟩
    refine ⟨_, PSs.nox (pss_one (ps_put (pe_var (i := 0) rfl (.inl v1)) (pe_var (i := 1) rfl (.inl v2) d1 d2))), ?_⟩
    refine ⟨_, rfl, _, rfl, a, C, rfl, T, hno, .inl ⟨ha, fun dx nd ne => ?_⟩⟩
    refine k dx _ nd ne ?_ upd_same fun b h1 h2 => ?_
    · rw [upd_ne ne, upd_same]
      rfl
    · rw [upd_ne h1, upd_ne h2]
theorem ok_ini2 {C f : Addr} {fd : FuncData} {fn gn qual : Str} {params : Arguments} {scope : Scope} {p1 p2 p3 p4 q1 q2 q3 q4 : Pos}
    (F : FunD K "__init__" qual params [.Assign [.Attribute (.Name "self" p1) fn p2] (.Name fn p3) p4, .Assign [.Attribute (.Name "self" q1) gn q2] (.Name gn q3) q4] scope [] [] f fd)
    (S : FnScope ["self", fn, gn] ["self", fn, gn] scope)
    (v1 : scope.names.lookup ("self" : Str) = some NameKind.local) (v2 : scope.names.lookup fn = some NameKind.local) (v3 : scope.names.lookup gn = some NameKind.local)
    (d1 : (fn == ("__debug__" : Str)) = false) (d2 : (fn == ("__classdict__" : Str)) = false) (d3 : (gn == ("__debug__" : Str)) = false) (d4 : (gn == ("__classdict__" : Str)) = false)
    (T : ErrC K C) (hno : PySem.W.findIn K (.ref C) fn = some none) (hno2 : PySem.W.findIn K (.ref C) gn = some none) : FnOk P w K mg base CX0 1 f fd ["self", fn, gn] (spErr C [fn, gn]) := by
  refine F.ok S (fun vs H Q E h => ?_) (fun cdv A outer s H vs Q E hr h => ?_)
  · obtain ⟨a, ws, rfl, hl, _⟩ := h
    rw [List.length_cons, hl] <;> rfl
  · obtain ⟨a, ws, rfl, hl, ha, k⟩ := h
    obtain ⟨y, z, rfl⟩ : ∃ y z, ws = [y, z] := by
      match ws, hl with
      | [y, z], _ => exact ⟨y, z, rfl⟩
    refine ⟨_, PSs.nox (pss_cons (ps_put (pe_var (i := 0) rfl (.inl v1)) (pe_var (i := 1) rfl (.inl v2) d1 d2)) (pss_one (ps_put (pe_var (i := 0) rfl (.inl v1)) (pe_var (i := 2) rfl (.inl v3) d3 d4)))), ?_⟩
    refine ⟨_, rfl, _, rfl, a, C, rfl, T, hno, .inl ⟨ha, fun dx nd ne => ?_⟩⟩
    have e1 : upd (upd H dx (exd dx [(fn, y)])) a (exo a C (some dx)) dx = some (exd dx [(fn, y)]) := by
      rw [upd_ne ne, upd_same]
    refine ⟨_, rfl, _, rfl, a, C, rfl, T, hno2, .inr ⟨dx, _, upd_same, e1, by show 1 ≤ 900; decide, ?_⟩⟩
    refine k dx _ nd ne ?_ ?_ fun b h1 h2 => ?_
    · rw [upd_same]
      rfl
    · rw [upd_ne (Ne.symm ne), upd_same]
    · rw [upd_ne h2, upd_ne h1, upd_ne h2]
end
theorem Same.new {H : Hp} {p : Addr} {o : HO} (h : H p = none) : Same H (upd H p o) := fun b u e => by
  rw [upd_ne (ne_of_none e h)]
  exact e
/-! ### ways joined -/
theorem tchainC {f g : Int → Int → Bool} {c i j : Int} {ta tb : TE} {σ : St} {H : Hp} {Q : VK} (ha : Val ta σ H (.int i)) (hb : Val tb σ H (.int j)) (h : Q (.bl (f i j && g j c)) H) :
    tChain (rI0 fun i j => .bl (f i j)) (rI0 fun i j => .bl (g i j)) ta tb (tC (.int c)) σ H Q := by
  refine ha _ (hb _ ⟨i, j, rfl, rfl, f i j, rfl, ?_⟩)
  cases e : f i j with
  | true =>
    rw [e] at h
    exact iteT ⟨j, c, rfl, rfl, h⟩
  | false =>
    rw [e] at h
    exact iteF h
theorem iteF' {c : Bool} {A B : Prop} (hc : c = false) (h : B) : if c = true then A else B := by
  rw [hc]
  exact iteF h
theorem iteT' {c : Bool} {A B : Prop} (hc : c = true) (h : A) : if c = true then A else B := by
  rw [hc]
  exact iteT h
/-! ### an own error by the name of its class -/
structure ErrDef (P : Program) (w : World) (K : PySem.W.Frag) (mg : Str → Option Value) (base : Heap) (CX : CXT) (k : Nat) (x : Str) (C : Addr) (ps fns : List Str) : Prop where
  ex : ∃ (fI : Addr) (fd : FuncData), mg x = some (.ref C) ∧ ErrC K C ∧ PySem.W.findIn K (.ref C) "__init__" = some (some (.ref fI)) ∧ PySem.W.typeIn K (.ref fI) = some (.type "function") ∧
    Binds K fd ps [] ∧ (∀ (s : Shared) (e : Value) (ws : List Value), K.In s.heap → ws.length = fns.length → BindsTo s fd ⟨[e], fns.reverse.zip ws⟩ (ps.zip (e :: ws.reverse))) ∧
    FnOk P w K mg base CX k fI fd ps (spErr C fns) ∧ fns.length ≤ 1000 ∧ ps.length = fns.length + 1
section
variable {X : Cx} {CX : CXT} {k : Nat} {C : Addr} {ps fns : List Str} {x : Str} {p pos : Pos} {e : Expr} {es : List Expr} {ta : TA}
theorem pe_err (c : ErrDef X.prog X.w X.K X.mg X.base CX k x C ps fns) (hr : Room (k + 1) X.A) (hg : Gl X x) (hx : Passes CX X E0) (ha : PA X (e :: es) ta)
    (hdb : (x == ("__debug__" : Str)) = false := by decide) (he : starEach (e :: es) X.env = (false, eval e X.env) :: starEach es X.env := by rfl)
    (hpl : (backTo pos (starEach es X.env)).any (·.1) = false := by rfl) : PE X (.Call (.Name x p) (e :: es) [] pos) (tNew C fns ta) := by
  obtain ⟨fI, fd, hm, T, iC, tI, hb, _, F, few, hp⟩ := c.ex
  exact pe_new (CX := CX) (k := k) (fI := fI) (fd := fd) (ps := ps) ⟨T, iC, tI, F, few⟩ hr hg hm hb hp hx ha hdb he hpl
/-- the keywords in turned order -/
theorem pe_errK {kws : List Keyword} {tk : TA} (c : ErrDef X.prog X.w X.K X.mg X.base CX k x C ps fns) (hr : Room (k + 1) X.A) (hg : Gl X x) (hx : Passes CX X E0)
    (hkw : PK X kws tk) (hall : (backToKw pos (keywordEach kws X.env)).all (·.1.isSome) = true := by rfl) (hks : (backToKw pos (keywordEach kws X.env)).filterMap (·.1) = fns.reverse := by rfl)
    (hdb : (x == ("__debug__" : Str)) = false := by decide)
    (hpl : ((backTo pos (starEach [] X.env)).any (·.1) || (backToKw pos (keywordEach kws X.env)).any (·.1.isNone)) = false := by rfl) :
    PE X (.Call (.Name x p) [] kws pos) (tNew C fns fun σ H Q => tk σ H fun zs H1 => zs.length = fns.length ∧ Q zs.reverse H1) := by
  obtain ⟨fI, fd, hm, T, iC, tI, _, hb, F, few, hp⟩ := c.ex
  exact pe_newK (CX := CX) (k := k) (fI := fI) (fd := fd) (ps := ps) (ks := fns.reverse) (g := List.reverse) ⟨T, iC, tI, F, few⟩ hr hg hm hb (fun r _ => r.reverse) (fun zs h => by rw [List.length_reverse, h]) hx hkw hall hks hdb hpl
end
theorem nx_ {t b c : St → Hp → Prop} {r : VK} {σ : St} {H : Hp} (h : t σ H) : ({ nx := t, rt := r, bk := b, ct := c } : Ends).nx σ H := h
end L2

set_option Elab.async false
set_option maxRecDepth 100000
set_option maxHeartbeats 4000000
set_option linter.all false
/-! tokens and what is gone over of a history: the mathematics of k13 -/
namespace K13
open PySem PySem.Spec PyProof.Rows L2
inductive Tok where
  | begin (w : Str) | answer (n : Nat) (w : Str) | rang (n : Nat) | signal (a b : Str)
  | asked (w : Str) | set | dropped (n : Nat) | noted (w : Str) | marked (w : Str) | ended (w : Str) | anew (w : Str)
namespace Tok
def head : Tok → Str
  | .begin _ => "begin" | .answer _ _ => "answer" | .rang _ => "rang" | .signal _ _ => "signal" | .asked _ => "asked" | .set => "set"
  | .dropped _ => "dropped" | .noted _ => "noted" | .marked _ => "marked" | .ended _ => "ended" | .anew _ => "anew"
def rest : Tok → List V
  | .begin w => [.str w] | .answer n w => [.int n, .str w] | .rang n => [.int n] | .signal a b => [.str a, .str b] | .asked w => [.str w] | .set => []
  | .dropped n => [.int n] | .noted w => [.str w] | .marked w => [.str w] | .ended w => [.str w] | .anew w => [.str w]
def words : Tok → List Str
  | .begin w => [w] | .answer _ w => [w] | .rang _ => [] | .signal a b => [a, b] | .asked w => [w] | .set => []
  | .dropped _ => [] | .noted w => [w] | .marked w => [w] | .ended w => [w] | .anew w => [w]
def vals (t : Tok) : List V := .str t.head :: t.rest
def outer : Tok → Bool
  | .begin _ => true | .answer _ _ => true | .rang _ => true | .signal _ _ => true | _ => false
def num? : Tok → Option Nat
  | .answer n _ => some n | .rang n => some n | .dropped n => some n | _ => none
def withN : Tok → Nat → Tok
  | .answer _ w, n => .answer n w | .rang _, n => .rang n | .dropped _, n => .dropped n | t, _ => t
def start? : Tok → Option Bool
  | .asked _ => some true | .set => some false | _ => none
def last : Tok → Bool
  | .ended _ => true | .anew _ => true | _ => false
def isBegin : Tok → Bool
  | .begin _ => true | _ => false
end Tok
structure S where
  run : List Nat
  kinds : List Bool
  ths : List Nat
  len : Nat
  fin : Bool
def s0 : S := ⟨[], [], [], 0, false⟩
def kindOk (s : S) : Tok → Bool
  | .answer n _ => s.run.contains n && s.kinds[n]? == some true
  | .rang n => s.run.contains n && s.kinds[n]? == some false
  | .dropped n => s.run.contains n
  | _ => true
def may (s : S) (t : Tok) : Bool := !s.fin && (t.isBegin == (s.len == 0) && kindOk s t)
def bt (s : S) : S := { s with ths := s.run }
def ths0 (s : S) (t : Tok) : List Nat := if t.outer then s.run else s.ths
def go (s : S) (t : Tok) : S :=
  match t.start? with
  | some k => ⟨s.run ++ [s.kinds.length], s.kinds ++ [k], ths0 s t ++ [s.kinds.length], s.len + 1, t.last⟩
  | none => match t.num? with
    | some n => ⟨s.run.erase n, s.kinds, ths0 s t, s.len + 1, t.last⟩
    | none => ⟨s.run, s.kinds, ths0 s t, s.len + 1, t.last⟩
def age (s : S) (t : Tok) : Tok := match t.num? with
  | some n => t.withN ((ths0 s t).idxOf n)
  | none => t
def byNum (s : S) (t : Tok) : Option Tok := match t.num? with
  | some a => (s.ths[a]?).map t.withN
  | none => some t
/-- a history that may be gone over -/
def valid (s : S) : List Tok → Bool
  | [] => true
  | t :: r => may s t && valid (go s t) r
def goAll (s : S) : List Tok → S
  | [] => s
  | t :: r => goAll (go s t) r
def ageAll (s : S) : List Tok → List Tok
  | [] => []
  | t :: r => age s t :: ageAll (go s t) r
/-- the turns of a flat list -/
def cutOn (acc : List (List Tok)) (t : Tok) : List (List Tok) := if t.outer then acc ++ [[t]] else acc.dropLast ++ [(acc.getLastD []) ++ [t]]
def cutAll (ts : List Tok) : List (List Tok) := ts.foldl cutOn []
/-- what is read by age -/
def wToks (first : Bool) (s : S) (h : List Tok) : List (Option Tok) → Option (S × List Tok)
  | [] => some (s, h)
  | none :: _ => none
  | some t :: r => if t.outer != first then none else match byNum s t with
    | none => none
    | some u => if may s u then wToks false (go s u) (h ++ [u]) r else none
def wWalk (strict : Bool) (s : S) (h : List Tok) : List (Option (List (Option Tok))) → Option (List Tok)
  | [] => some h
  | none :: _ => none
  | some turn :: r => if strict && turn.isEmpty then none else match wToks true (bt s) h turn with
    | none => none
    | some (s', h') => wWalk strict s' h' r
def pBack (ts : List (Option (List (Option Tok)))) : Option (List Tok) := if ts.isEmpty then none else wWalk true s0 [] ts
def lift (ts : List (List Tok)) : List (Option (List (Option Tok))) := ts.map fun t => some (t.map some)
def lBack (ts : List (List Tok)) : Option (List Tok) := match wWalk false s0 [] (lift ts) with
  | none => none
  | some h => if ts.any List.isEmpty || h.isEmpty then none else some h
/-! ### both ways to go back agree -/
theorem wToks_len {first : Bool} : ∀ {ts : List (Option Tok)} {first : Bool} {s s' : S} {h h' : List Tok}, wToks first s h ts = some (s', h') → h'.length = h.length + ts.length
  | [], _, _, _, _, _, e => by
    simp only [wToks, Option.some.injEq, Prod.mk.injEq] at e
    rw [← e.2]; rfl
  | none :: _, _, _, _, _, _, e => by simp [wToks] at e
  | some t :: r, first, s, s', h, h', e => by
    simp only [wToks] at e
    split at e
    · cases e
    · split at e
      · cases e
      · split at e
        · have := wToks_len (first := false) e
          simp only [List.length_append, List.length_cons, List.length_nil] at this ⊢
          omega
        · cases e
theorem walk_strict {ts : List (List Tok)} (he : ts.any List.isEmpty = false) : ∀ (s : S) (h : List Tok), wWalk true s h (lift ts) = wWalk false s h (lift ts) := by
  induction ts with
  | nil => intros; rfl
  | cons t r ih =>
    intro s h
    simp only [List.any_cons, Bool.or_eq_false_iff] at he
    have e1 : (t.map some).isEmpty = false := by
      cases t with
      | nil => simp at he
      | cons a b => rfl
    simp only [lift, List.map_cons, wWalk, e1, Bool.and_false, Bool.false_eq_true, if_false]
    split
    · rfl
    · exact ih he.2 _ _
theorem walk_empty {ts : List (List Tok)} (he : ts.any List.isEmpty = true) : ∀ (s : S) (h : List Tok), wWalk true s h (lift ts) = none := by
  induction ts with
  | nil => simp at he
  | cons t r ih =>
    intro s h
    cases t with
    | nil => rfl
    | cons a b =>
      have he' : r.any List.isEmpty = true := by simpa using he
      simp only [lift, List.map_cons, wWalk, List.isEmpty_cons, Bool.and_false, Bool.false_eq_true, if_false]
      split
      · rfl
      · exact ih he' _ _
theorem walk_len : ∀ {ts : List (List Tok)} {b : Bool} {s : S} {h h' : List Tok}, wWalk b s h (lift ts) = some h' → h'.length = h.length + (ts.map List.length).sum
  | [], _, _, _, _, e => by
    simp only [lift, List.map_nil, wWalk, Option.some.injEq] at e
    rw [← e]; rfl
  | t :: r, b, s, h, h', e => by
    simp only [lift, List.map_cons, wWalk] at e
    split at e
    · cases e
    · split at e
      · cases e
      · rename_i s2 h2 q
        have l1 := wToks_len (first := true) q
        have l2 := walk_len (ts := r) e
        simp only [List.length_map] at l1
        simp only [List.map_cons, List.sum_cons]
        omega
theorem pBack_lift (ts : List (List Tok)) : pBack (lift ts) = lBack ts := by
  unfold pBack lBack
  cases ts with
  | nil => rfl
  | cons t r =>
    have e0 : (lift (t :: r)).isEmpty = false := rfl
    rw [e0]
    simp only [Bool.false_eq_true, if_false]
    cases he : (t :: r).any List.isEmpty with
    | true =>
      rw [walk_empty he]
      split <;> simp
    | false =>
      rw [walk_strict he]
      cases q : wWalk false s0 [] (lift (t :: r)) with
      | none => rfl
      | some h =>
        have l := walk_len q
        have : h.isEmpty = false := by
          cases h with
          | nil =>
            cases t with
            | nil => simp at he
            | cons a b =>
              simp only [List.length_nil, List.map_cons, List.sum_cons, List.length_cons] at l
              omega
          | cons a b => rfl
        simp [this]

/-! ### what is told by age is read back -/
def cutR : List Tok → List Tok × List (List Tok)
  | [] => ([], [])
  | t :: r => if t.outer then ([], (t :: (cutR r).1) :: (cutR r).2) else (t :: (cutR r).1, (cutR r).2)
theorem foldl_cut : ∀ (ts : List Tok) (acc : List (List Tok)) (l : List Tok), ts.foldl cutOn (acc ++ [l]) = acc ++ [l ++ (cutR ts).1] ++ (cutR ts).2
  | [], acc, l => by simp [cutR]
  | t :: r, acc, l => by
    rw [List.foldl_cons]
    cases e : t.outer with
    | true =>
      have e1 : cutOn (acc ++ [l]) t = (acc ++ [l]) ++ [[t]] := by simp [cutOn, e]
      rw [e1, foldl_cut r]
      simp [cutR, e]
    | false =>
      have e1 : cutOn (acc ++ [l]) t = acc ++ [l ++ [t]] := by simp [cutOn, e]
      rw [e1, foldl_cut r]
      simp [cutR, e]
theorem cutAll_R {t : Tok} {r : List Tok} (e : t.outer = true) : cutAll (t :: r) = (cutR (t :: r)).2 := by
  have e1 : cutOn [] t = [] ++ [[t]] := by simp [cutOn, e]
  unfold cutAll
  rw [List.foldl_cons, e1, foldl_cut]
  simp [cutR, e]
/-- a state that can be: the open things are among those with an age -/
structure Good (s : S) : Prop where
  sub : ∀ n ∈ s.run, n ∈ s.ths
  srt : s.ths.Pairwise (· < ·)
  srr : s.run.Pairwise (· < ·)
  few : ∀ n ∈ s.ths, n < s.kinds.length
theorem good0 : Good s0 := ⟨by simp [s0], by simp [s0], by simp [s0], by simp [s0]⟩
theorem Good.few' {s : S} (g : Good s) : ∀ n ∈ s.run, n < s.kinds.length := fun n h => g.few n (g.sub n h)
theorem Good.bt {s : S} (g : Good s) : Good (bt s) := ⟨fun n h => h, g.srr, g.srr, g.few'⟩
theorem Good.ths0 {s : S} (g : Good s) (t : Tok) : (ths0 s t).Pairwise (· < ·) ∧ (∀ n ∈ s.run, n ∈ ths0 s t) ∧ ∀ n ∈ ths0 s t, n < s.kinds.length := by
  unfold K13.ths0
  split
  · exact ⟨g.srr, fun n h => h, g.few'⟩
  · exact ⟨g.srt, g.sub, g.few⟩
theorem Good.go {s : S} (g : Good s) (t : Tok) : Good (go s t) := by
  obtain ⟨h1, h2, h3⟩ := g.ths0 t
  unfold K13.go
  split
  · refine ⟨fun n h => ?_, ?_, ?_, fun n h => ?_⟩
    · rcases List.mem_append.mp h with h | h
      · exact List.mem_append_left _ (h2 n h)
      · exact List.mem_append_right _ h
    · refine List.pairwise_append.mpr ⟨h1, by simp, fun a ha b hb => ?_⟩
      rw [List.mem_singleton.mp hb]
      exact h3 a ha
    · refine List.pairwise_append.mpr ⟨g.srr, by simp, fun a ha b hb => ?_⟩
      rw [List.mem_singleton.mp hb]
      exact g.few' a ha
    · show n < (s.kinds ++ [_]).length
      rw [List.length_append]
      rcases List.mem_append.mp h with h | h
      · have := h3 n h
        simp; omega
      · rw [List.mem_singleton.mp h]
        simp
  · split
    · exact ⟨fun n h => h2 n (List.mem_of_mem_erase h), h1, g.srr.sublist List.erase_sublist, h3⟩
    · exact ⟨h2, h1, g.srr, h3⟩
theorem withN_num {t : Tok} {n : Nat} (e : t.num? = some n) (a : Nat) : (t.withN a).num? = some a ∧ (t.withN a).withN n = t ∧ (t.withN a).outer = t.outer := by
  cases t <;> simp_all [Tok.num?, Tok.withN, Tok.outer]
theorem age_outer (s : S) (t : Tok) : (age s t).outer = t.outer := by
  unfold age
  split
  · rename_i n e
    exact (withN_num e _).2.2
  · rfl
theorem kind_run {s : S} {t : Tok} {n : Nat} (e : t.num? = some n) (k : kindOk s t = true) : n ∈ s.run := by
  cases t <;> simp_all [Tok.num?, kindOk]
theorem may_kind {s : S} {t : Tok} (h : may s t = true) : kindOk s t = true ∧ s.fin = false ∧ t.isBegin = (s.len == 0) := by
  simp only [may, Bool.and_eq_true, Bool.not_eq_true', beq_iff_eq] at h
  exact ⟨h.2.2, h.1, h.2.1⟩
theorem get_idx {l : List Nat} {n : Nat} (h : n ∈ l) : l[l.idxOf n]? = some n := by
  have hl := List.idxOf_lt_length_of_mem h
  rw [List.getElem?_eq_getElem hl, List.getElem_idxOf hl]
theorem byNum_age {s : S} {t : Tok} (g : Good s) (m : may s t = true) (ht : ths0 s t = s.ths) : byNum s (age s t) = some t := by
  unfold age
  split
  · rename_i n e
    obtain ⟨h1, h2, _⟩ := withN_num e ((ths0 s t).idxOf n)
    unfold byNum
    rw [h1]
    show (s.ths[(ths0 s t).idxOf n]?).map _ = _
    rw [ht, get_idx (g.sub n (kind_run e (may_kind m).1)), Option.map_some]
    rw [ht] at h2
    rw [h2]
  · rename_i e
    unfold byNum
    rw [e]
theorem may_bt (s : S) (t : Tok) : may (bt s) t = may s t := by
  cases t <;> rfl
theorem go_bt {s : S} {t : Tok} (e : t.outer = true) : go (bt s) t = go s t := by
  unfold go ths0 bt
  simp only [e, if_true]
theorem back_age : ∀ (h : List Tok) (s : S) (hh : List Tok), Good s → valid s h = true →
    ∃ s' h', wToks false s hh ((cutR (ageAll s h)).1.map some) = some (s', h') ∧ wWalk true s' h' (lift (cutR (ageAll s h)).2) = some (hh ++ h)
  | [], s, hh, _, _ => ⟨s, hh, rfl, by simp [ageAll, cutR, lift, wWalk]⟩
  | t :: r, s, hh, g, v => by
    simp only [valid, Bool.and_eq_true] at v
    obtain ⟨m, v⟩ := v
    obtain ⟨s', h', e1, e2⟩ := back_age r (go s t) (hh ++ [t]) (g.go t) v
    have eo := age_outer s t
    cases o : t.outer with
    | false =>
      rw [o] at eo
      have ht : ths0 s t = s.ths := by simp [ths0, o]
      refine ⟨s', h', ?_, ?_⟩
      · simp only [ageAll, cutR, eo, Bool.false_eq_true, if_false, List.map_cons, wToks, byNum_age g m ht, m, if_true, bne_self_eq_false]
        exact e1
      · simp only [ageAll, cutR, eo, Bool.false_eq_true, if_false]
        rw [e2]
        simp
    | true =>
      rw [o] at eo
      have ht : ths0 (bt s) t = (bt s).ths := by simp [ths0, o, bt]
      have ea : age s t = age (bt s) t := by
        unfold age ths0
        simp [o, bt]
      refine ⟨s, hh, ?_, ?_⟩
      · simp only [ageAll, cutR, eo, if_true, List.map_nil, wToks]
      · simp only [ageAll, cutR, eo, if_true, lift, List.map_cons, wWalk, List.isEmpty_cons, Bool.and_false, Bool.false_eq_true, if_false, wToks, bne_self_eq_false]
        rw [ea, byNum_age g.bt (by rw [may_bt]; exact m) ht]
        simp only [may_bt, m, if_true, go_bt o]
        rw [e1]
        simp only [lift] at e2
        exact e2.trans (by simp)
def ageTurns (s : S) : List (List Tok) → List (List Tok)
  | [] => []
  | t :: r => ageAll s t :: ageTurns (goAll s t) r
theorem age_cut : ∀ (h : List Tok) (s : S), cutR (ageAll s h) = (ageAll s (cutR h).1, ageTurns (goAll s (cutR h).1) (cutR h).2)
  | [], s => rfl
  | t :: r, s => by
    have eo := age_outer s t
    have ih := age_cut r (go s t)
    cases o : t.outer with
    | false =>
      rw [o] at eo
      simp only [ageAll, cutR, eo, o, Bool.false_eq_true, if_false, ih, goAll]
    | true =>
      rw [o] at eo
      simp only [ageAll, cutR, eo, o, if_true, ih, goAll, ageTurns]
theorem begin_outer {t : Tok} {r : List Tok} (v : valid s0 (t :: r) = true) : t.outer = true := by
  simp only [valid, Bool.and_eq_true] at v
  have := (may_kind v.1).2.2
  cases t <;> simp_all [Tok.isBegin, Tok.outer, s0]
theorem round_trip {h : List Tok} (ne : h ≠ []) (v : valid s0 h = true) : pBack (lift (cutAll (ageAll s0 h))) = some h := by
  cases h with
  | nil => exact absurd rfl ne
  | cons t r =>
    have o := begin_outer v
    have eo := age_outer s0 t
    rw [o] at eo
    obtain ⟨s', h', e1, e2⟩ := back_age (t :: r) s0 [] good0 v
    have e3 : cutAll (ageAll s0 (t :: r)) = (cutR (ageAll s0 (t :: r))).2 := cutAll_R (t := age s0 t) eo
    have e4 : (cutR (ageAll s0 (t :: r))).1 = [] := by simp [ageAll, cutR, eo]
    rw [e4] at e1
    simp only [List.map_nil, wToks, Option.some.injEq, Prod.mk.injEq] at e1
    rw [← e1.1, ← e1.2] at e2
    unfold pBack
    rw [e3]
    have e5 : (lift (cutR (ageAll s0 (t :: r))).2).isEmpty = false := by simp [ageAll, cutR, eo, lift]
    rw [e5]
    exact e2
theorem aged_eq {h : List Tok} (ne : h ≠ []) (v : valid s0 h = true) : ageTurns s0 (cutAll h) = cutAll (ageAll s0 h) := by
  cases h with
  | nil => exact absurd rfl ne
  | cons t r =>
    have o := begin_outer v
    have eo := age_outer s0 t
    rw [o] at eo
    have e3 : cutAll (ageAll s0 (t :: r)) = (cutR (ageAll s0 (t :: r))).2 := cutAll_R (t := age s0 t) eo
    rw [e3, age_cut, cutAll_R o]
    have e4 : (cutR (t :: r)).1 = [] := by simp [cutR, o]
    rw [e4]
    rfl
end K13

set_option Elab.async false
set_option maxRecDepth 100000
set_option maxHeartbeats 4000000
set_option linter.all false
namespace L2
open PySem PySem.Spec PyProof.Rows
/-! ### raise C(e, ..), C an own error over LookupError with its own __init__ -/
def tMkE (C : Addr) (fns : List Str) (ta : TA) : St → Hp → XK → Prop := fun σ H Q => ta σ H fun vs H1 => vs.length = fns.length ∧
  ∀ d H', H1 d = none → H' d = some (.xd (fns.zip vs).reverse) → (∀ b, b ≠ d → H' b = H1 b) → Q (.ref C) (some d) H'
section
variable {X : Cx} {CX : CXT} {k : Nat} {C : Addr} {ps fns : List Str} {x : Str} {p pos : Pos} {e : Expr} {es : List Expr} {ta : TA}
theorem pmk_errL (c : ErrDef X.prog X.w X.K X.mg X.base CX k x C ps fns) (hr : Room (k + 1) X.A) (hg : Gl X x) (hx : Passes CX X E0) (ha : PA X (e :: es) ta)
    (hdb : (x == ("__debug__" : Str)) = false := by decide) (he : starEach (e :: es) X.env = (false, eval e X.env) :: starEach es X.env := by rfl)
    (hpl : (backTo pos (starEach es X.env)).any (·.1) = false := by rfl) : PMk X (.Call (.Name x p) (e :: es) [] pos) (tMkE C fns ta) := by
  obtain ⟨fI, fd, hm, T, iC, tI, hb, _, F, few, hp⟩ := c.ex
  intro pins s σ H Q I h
  refine wpAny_Call_Name_kw (ld_glob I hg hm ?_ hdb)
  refine PySem.W.callWith_K (h₀ := X.base) I.ok.mod.kin T.kC (thn (ha.run pos pins s σ H _ I h) fun us s1 ⟨vs, H1, I1, r, hl, q⟩ => ⟨I1.kIn, ?_⟩) he hpl
  have lu : us.length = fns.length := r.length.symm.trans hl
  obtain ⟨nm, N, qn, bs, bm, hdct, sn, sub, ab, col, dd, k0, k1, k2, k3, k5, hC, hT⟩ := PySem.W.excInit_of I1.kIn T.ini
  show wpAny _ _ (call (.ref C) us) _ _ _
  obtain ⟨hp0, g, dr, tk, os⟩ := s1
  have hsz : hp0.objs.size ≤ hp0.objs.size + 1 := Nat.le_succ _
  have hn : H1 (hp0.objs.size + 1) = none := I1.hok.fresh hsz
  have kk : ∀ b o, hp0.get? b = some o → ((hp0.push (PySem.W.kdv_tup us)).push (PySem.HandSPX.excO C hp0.objs.size)).get? b = some o := fun b o z => Heap.get?_push_of_some _ (Heap.get?_push_of_some _ z)
  have hget : ((hp0.push (PySem.W.kdv_tup us)).push (PySem.HandSPX.excO C hp0.objs.size)).get? (hp0.objs.size + 1) = some (PySem.HandSPX.excO C hp0.objs.size) := by heap_get
  have J : Inv X pins σ (upd H1 (hp0.objs.size + 1) (exo (hp0.objs.size + 1) C none)) ⟨(hp0.push (PySem.W.kdv_tup us)).push (PySem.HandSPX.excO C hp0.objs.size), g, dr, tk, os⟩ :=
    I1.laid (t' := tk) kk hsz (exo_ok hget)
  have sp : spErr C fns (.ref (hp0.objs.size + 1) :: vs) (upd H1 (hp0.objs.size + 1) (exo (hp0.objs.size + 1) C none)) (fun v H2 => v = .non ∧ ∃ d, H1 d = none ∧ H2 d = some (exd d (fns.zip vs).reverse) ∧
      H2 (hp0.objs.size + 1) = some (exo (hp0.objs.size + 1) C (some d)) ∧ d ≠ hp0.objs.size + 1 ∧ ∀ b, b ≠ hp0.objs.size + 1 → b ≠ d → H2 b = H1 b) E0 := by
    refine ⟨_, vs, rfl, hl, upd_same, fun dx H' nd ne e1 e2 e3 => ⟨rfl, dx, ?_, e1, e2, ne, fun b h1 h2 => ?_⟩⟩
    · rw [upd_ne ne] at nd
      exact nd
    · rw [e3 b h1 h2, upd_ne h1]
  have r2 : Vals (V.ref (hp0.objs.size + 1) :: vs) (Value.ref (hp0.objs.size + 1) :: us) := .cons rfl r
  have hbb : ∀ s0 : Shared, X.K.In s0.heap → BindsTo s0 fd ⟨Value.ref (hp0.objs.size + 1) :: us, []⟩ (ps.zip (Value.ref (hp0.objs.size + 1) :: us)) := fun s0 k0 => by
    have b := hb s0 (Value.ref (hp0.objs.size + 1) :: us) k0 (by rw [List.append_nil, List.length_cons, lu, hp])
    rw [List.append_nil] at b
    exact b
  refine wpAny_call (call_kw PySem.F.excBase_LookupError hT hC (PySem.W.looks_findIn I1.kIn iC) (fun self => PySem.W.bind_fn I1.kIn self tI) (by show us.length ≤ sizeLine; rw [lu, sizeLine_eq]; omega)
    (codeAny_mono (F.run _ X.stack _ _ ⟨Value.ref (hp0.objs.size + 1) :: us, []⟩ (Value.ref (hp0.objs.size + 1) :: us) _ _ E0 (hr.make C us []) (J.env0.make C us []) (hbb _ J.kIn) r2 sp) fun r s' hq' => ?_))
  cases r with
  | error er => exact hx pins σ _ _ er s' J hq'
  | ok fl =>
    cases fl with
    | ret u =>
      obtain ⟨v, H2, os2, bare2, un2, hok2, rv, ev, d, nd, ed, ea, dne, oth⟩ := hq'
      subst ev
      obtain ⟨h2, g2, d2, t2, os'⟩ := s'
      refine ⟨rv, mk_end (raises_own T.exC T.tyC) I1 hsz kk un2 hok2 os2 bare2 ea ed nd (q d _ nd upd_same fun b hb2 => ?_)⟩
      rw [upd_ne hb2]
      by_cases z : b = hp0.objs.size + 1
      · rw [z, del_same, hn]
      · rw [del_ne z, oth b z hb2]
    | next => exact False.elim hq'
    | brk => exact False.elim hq'
    | cont => exact False.elim hq'
end
/-! ### a method of the module's class by its name -/
structure MDef (P : Program) (w : World) (K : PySem.W.Frag) (mg : Str → Option Value) (base : Heap) (CX : CXT) (k : Nat) (C : Addr) (m : Str) (ps : List Str) (sp : Sp) : Prop where
  cl : Cls K C
  ex : ∃ (f : Addr) (fd : FuncData), Meth K C m f ∧ Binds K fd ps [] ∧ FnOk P w K mg base CX k f fd ps sp
section
variable {X : Cx} {CX : CXT} {k : Nat} {C : Addr} {ps : List Str} {sp : Sp} {E : XK} {m : Str} {o e : Expr} {es : List Expr} {to : TE} {t : TA} {apos pos : Pos}
theorem pe_mth {pl : Sem Bool} (c : MDef X.prog X.w X.K X.mg X.base CX k C m ps sp) (hr : Room k X.A) (hx : Passes CX X E) (ho : PE X o to) (ha : PA X (e :: es) t)
    (hst : starEach (e :: es) X.env = (false, eval e X.env) :: starEach es X.env := by rfl) (hpl : (backTo pos (starEach es X.env)).any (·.1) = false := by rfl)
    (ht : eval (.Call (.Attribute o m apos) (e :: es) [] pos) X.env = (do
      let ov ← eval o X.env
      standAt apos.atName
      let (f, first) ← holding [ov] (getMethod ov m pl)
      callWith pos f first (backTo pos (starEach (e :: es) X.env)) (backToKw pos (keywordEach [] X.env))) := by rfl) :
    PE X (.Call (.Attribute o m apos) (e :: es) [] pos) (tMeth C m sp [] E to t) := by
  obtain ⟨f, fd, hm, hb, F⟩ := c.ex
  exact pe_meth ho c.cl hm F hr hb .nil hx ha hst hpl ht
theorem pe_mth0 {pl : Sem Bool} (c : MDef X.prog X.w X.K X.mg X.base CX k C m ps sp) (hr : Room k X.A) (hx : Passes CX X E) (ho : PE X o to)
    (ht : eval (.Call (.Attribute o m apos) [] [] pos) X.env = (do
      let ov ← eval o X.env
      standAt apos.atName
      let (f, first) ← holding [ov] (getMethod ov m pl)
      callWith pos f first (backTo pos (starEach [] X.env)) (backToKw pos (keywordEach [] X.env))) := by rfl) :
    PE X (.Call (.Attribute o m apos) [] [] pos) (tMeth C m sp [] E to tNil) := by
  obtain ⟨f, fd, hm, hb, F⟩ := c.ex
  exact pe_meth0 ho c.cl hm F hr hb .nil hx ht
end
/-! ### written dicts with text keys -/
def KD (K : PySem.W.Frag) (w : World) (d : Addr) : Prop := ∃ es n, KDict K w d es n
section
variable {X : Cx} {d : Addr}
def rInKd (K : PySem.W.Frag) (d : Addr) : R2 := fun x y H Q => ∃ (z : Str) (r : Option Value), x = .str z ∧ y = .ref d ∧ PySem.W.nsIn K d z = some r ∧ Q (.bl r.isSome) H
def rNotInKd (K : PySem.W.Frag) (d : Addr) : R2 := fun x y H Q => ∃ (z : Str) (r : Option Value), x = .str z ∧ y = .ref d ∧ PySem.W.nsIn K d z = some r ∧ Q (.bl (!r.isSome)) H
theorem op_in_kd' (D : KD X.K X.w d) : OpR X (compareOp .In) (rInKd X.K d) := by
  obtain ⟨es, n, D⟩ := D
  exact op_in_kd D
theorem op_notIn_kd' (D : KD X.K X.w d) : OpR X (compareOp .NotIn) (rNotInKd X.K d) := by
  obtain ⟨es, n, D⟩ := D
  exact op_notIn_kd D
theorem kdct {K : PySem.W.Frag} {w : World} {d : Addr} {z : Str} {u : Value} {v : V} (D : KD K w d) (e : PySem.W.nsIn K d z = some (some u)) (r : RelV v u) : KDct K w d z v := by
  obtain ⟨es, n, D⟩ := D
  exact ⟨es, n, u, D.at_, D.lit, e, r⟩
end
theorem walk_zipT {K : PySem.W.Frag} {a b : Addr} {xs ys : List V} {n : Nat} (hn : n = min xs.length ys.length) : Walk (RZ.ItzT K a b) n (fun H => SqT K H a xs ∧ SqT K H b ys) (YPair (fun i => xs[i]?) (fun i => ys[i]?)) := by
  subst hn
  refine ⟨fun i _ hi q => ?_, fun _ q => ⟨xs, ys, q.1, q.2, by omega⟩, fun i H v H' _ q y => ?_⟩
  · have h1 : i < xs.length := by omega
    have h2 : i < ys.length := by omega
    exact ⟨xs, ys, xs[i], ys[i], q.1, q.2, by simp [h1], by simp [h2]⟩
  · obtain ⟨T, x, z, h1, h2, h3, h4, h5⟩ := y
    exact ⟨T, x, z, h1, h2, h3, h4 xs q.1, h5 ys q.2⟩
end L2

set_option Elab.async false
set_option maxRecDepth 100000
set_option maxHeartbeats 4000000
set_option linter.all false
/-! words of our own: a def of a class called off the class; a class made with defaults; {..} of two clauses over what is empty -/
namespace L2
open PySem PySem.Spec PyProof.Rows
/-- the def m of the class x, called as x.m(..) -/
structure CFun (P : Program) (w : World) (K : PySem.W.Frag) (mg : Str → Option Value) (base : Heap) (CX : CXT) (k : Nat) (x : Str) (C : Addr) (m : Str) (ps : List Str) (sp : Sp) : Prop where
  ex : ∃ (f : Addr) (fd : FuncData) (mc : Value), mg x = some (.ref C) ∧ ClX.CRead K C mc ∧ PySem.W.findCls K (.ref C) mc m = some (.val (.ref f)) ∧ PySem.W.keepIn K (.ref f) = true ∧ Binds K fd ps [] ∧ FnOk P w K mg base CX k f fd ps sp
/-- the class x, made with the defaults dvs -/
structure MkA (P : Program) (w : World) (K : PySem.W.Frag) (mg : Str → Option Value) (base : Heap) (CX : CXT) (k : Nat) (x : Str) (C : Addr) (dvs : List V) (ps : List Str) (sp : Sp) : Prop where
  ex : ∃ (f : Addr) (fd : FuncData) (ds : List Value), mg x = some (.ref C) ∧ Mk K C f ∧ Binds K fd ps ds ∧ Vals dvs ds ∧ FnOk P w K mg base CX k f fd ps sp
section
variable {X : Cx} {CX : CXT} {k : Nat} {C : Addr} {ps : List Str} {sp : Sp} {E : XK} {x m : Str} {dvs : List V} {e : Expr} {es : List Expr} {t : TA} {p p1 p2 pos : Pos}
theorem pe_cfun {pl : Sem Bool} (c : CFun X.prog X.w X.K X.mg X.base CX k x C m ps sp) (hr : Room k X.A) (hg : Gl X x) (hx : Passes CX X E) (ha : PA X (e :: es) t)
    (hdb : (x == ("__debug__" : Str)) = false := by decide) (he : starEach (e :: es) X.env = (false, eval e X.env) :: starEach es X.env := by rfl)
    (hpl : (backTo pos (starEach es X.env)).any (·.1) = false := by rfl)
    (ht : eval (.Call (.Attribute (.Name x p1) m p2) (e :: es) [] pos) X.env = (do
      let cls ← eval (.Name x p1) X.env
      standAt p2.atName
      let (g, before) ← holding [cls] (getMethod cls m pl)
      callWith pos g before (backTo pos (starEach (e :: es) X.env)) (backToKw pos (keywordEach [] X.env))) := by rfl) :
    PE X (.Call (.Attribute (.Name x p1) m p2) (e :: es) [] pos) (tCall sp [] E t) := by
  obtain ⟨f, fd, mc, hm, cr, hf, hk, hb, F⟩ := c.ex
  refine ⟨fun pins s σ H Q I h => PySem.W.methodCall_KW (ld_glob I hg hm ?_ hdb) ht⟩
  refine PySem.W.method_cls I.kIn cr.ga (PySem.W.cls_value I.kIn cr.rd hf (handed_of (v := .ref f) rfl) ?_)
  have I2 := I.tok (s.toks + 1)
  exact PySem.W.callWith_K (h₀ := X.base) I.ok.mod.kin hk (thn (ha.run pos pins _ σ H _ I2 h) fun us s1 ⟨vs, H1, I1, r, q⟩ => ⟨I1.kIn, run_fn F hr hb .nil hx I1 r q⟩) he hpl
theorem pe_mkA (c : MkA X.prog X.w X.K X.mg X.base CX k x C dvs ps sp) (hr : Room (k + 1) X.A) (hg : Gl X x) (hx : Passes CX X E) (ha : PA X (e :: es) t)
    (hdb : (x == ("__debug__" : Str)) = false := by decide) (he : starEach (e :: es) X.env = (false, eval e X.env) :: starEach es X.env := by rfl)
    (hpl : (backTo pos (starEach es X.env)).any (·.1) = false := by rfl) : PE X (.Call (.Name x p) (e :: es) [] pos) (tMake C sp dvs E t) := by
  obtain ⟨f, fd, ds, hm, M, hb, hd, F⟩ := c.ex
  exact pe_make M F hr hg hm hb hd hx ha hdb he hpl
theorem pe_never {e : Expr} : PE X e (fun _ _ _ => False) := ⟨fun _ _ _ _ _ _ h => h.elim⟩
theorem pt_never {e : Expr} : PT X e (fun _ _ _ => False) := ⟨fun _ _ _ _ _ _ h => h.elim⟩
end
end L2

set_option Elab.async false
set_option maxRecDepth 100000
set_option maxHeartbeats 4000000
set_option linter.all false
namespace L2
open PySem PySem.Spec PyProof.Rows
section
variable {prog : Program} {w : World} {A : Around} {R : Result → Shared → Prop} {s : Shared} {env : Env}
theorem turn_first (elt t0 i0 t1 i1 : Expr) (sc : Scope) (pos : Pos) (it acc : Value) (env : Env) : ∃ k : Value → Sem Fin,
    compTurn (.SetComp elt [⟨t0, i0, [], 0⟩, ⟨t1, i1, [], 0⟩] sc pos) 0 it acc env = (do
      standAt i0.pos
      match ← pyNext it with
      | none => pure (.done .next)
      | some v => k v) := ⟨_, rfl⟩
/-- the first clause has nothing to go over -/
theorem loop_none {elt t0 i0 t1 i1 : Expr} {sc : Scope} {pos : Pos} {it acc : Value}
    (h : wpAny (model prog w) A (pyNext it) (fun r s' => r = none ∧ R (.ok .next) s') (fun _ _ => False) s) :
    codeAny (model prog w) A (.compLoop (.SetComp elt [⟨t0, i0, [], 0⟩, ⟨t1, i1, [], 0⟩] sc pos) 0 it acc env) R s := by
  obtain ⟨k, e⟩ := turn_first elt t0 i0 t1 i1 sc pos it acc env
  refine codeAny_loop rfl (fun _ s' => s' = s) (fun n s' hs => ?_) 0 rfl
  subst hs
  show wpAny _ A ((compTurn (.SetComp elt [⟨t0, i0, [], 0⟩, ⟨t1, i1, [], 0⟩] sc pos) 0 it acc env).onRaise (fun x => do noteFrame x env; theTreesLotGoes x)) _ _ _
  refine wpAny_noted ?_
  rw [e]
  refine wpAny_bind (wpAny_standAt (wpAny_bind (wpAny_mono h (fun r s1 hr => ?_) fun _ _ z => z.elim)))
  obtain ⟨rfl, hr⟩ := hr
  exact wpAny_pure hr
end
end L2

set_option Elab.async false
set_option maxRecDepth 100000
set_option maxHeartbeats 4000000
set_option linter.all false
namespace L2
open PySem PySem.Spec PyProof.Rows
section
variable {X : Cx}
/-- {e for a in xs for b in ys}, xs with nothing in it: the new set D is empty -/
def tScNil (w : World) (wi : TI) : TE := fun σ H Q => wi σ H fun J H1 => ∀ D, H1 D = none → J.stop 0 (upd H1 D (SetO w D (fun _ => false) 0)) ∧ Q (.ref D) (upd H1 D (SetO w D (fun _ => false) 0))
theorem pe_scNil {elt t0 i0 t1 i1 : Expr} {sc : Scope} {own : List (PySem.Str × Nat)} {pos : Pos} {wi : TI} (calm : X.calm = true) (nd : X.N.Nodup) (hi : PI X t0 i0 wi) (ok : BlkOk X.N X.env.scope sc own)
    (fold : ∀ x, foldedSetIterable i0 X.env x = pure x := by intro _; rfl) :
    PE X (.SetComp elt [⟨t0, i0, [], 0⟩, ⟨t1, i1, [], 0⟩] sc pos) (tScNil X.w wi) := by
  refine ⟨fun pins s σ H Q I h => ?_⟩
  rw [PpSet.eval_SetComp]
  have frees : ∀ y ∈ sc.names, y.2 = .free → ∃ c, X.env.cells.lookup y.1 = some c := fun y hy e =>
    (ok.free y hy e).elim (fun z => I.ok.has _ (.inl z)) fun z => I.ok.has _ (.inr z)
  refine wpAny_comprehension_free (use := none) rfl fold (closure_ok frees) ok.kind (fun y hy e => by rw [ok.uniq y hy, e]) (thn (hi.run pins s σ H _ I h) fun xv sA hx => thn hx fun itv sB hB => ?_)
  obtain ⟨it, fp, tn, J, HB, rfl, IB, T, stB, fB, q⟩ := hB
  refine PpSet.newSet_ok (newEnv_comp ?_)
  obtain ⟨q1, q2⟩ := q sB.heap.objs.size (IB.hok.fresh (Nat.le_refl _))
  generalize eD : sB.heap.objs.size = D at q1 q2
  -- the set is laid
  generalize eC : ({ sB with heap := sB.heap.push { cls := .type "set", dict := none, data := .set #[] 0 (.fresh 0 0 (!X.w.params.followText "set-order")) } } : Shared) = sC
  have hC : sC.heap = sB.heap.push { cls := .type "set", dict := none, data := .set #[] 0 (.fresh 0 0 (!X.w.params.followText "set-order")) } := by rw [← eC]
  generalize eH : upd HB D (SetO X.w D (fun _ => false) 0) = HC at q1 q2
  have IC : Inv X pins σ HC sC := by
    rw [← eC, ← eH]
    refine IB.laid (t' := sB.toks) (fun b o e => Heap.get?_push_of_some _ e) (Nat.le_of_eq eD) (setO_new ?_)
    rw [← eD]
    exact (setR_new_at (ns := []) (Heap.get?_push_size _ rfl)).congr fun k => by simp
  have young : ∀ b ∈ fp, b < sB.heap.objs.size := fun b hb => (T.obj _ _ stB b hb).elim fun o e => Heap.lt_size e.1
  have fC : ∀ b ∈ fp, FpOk X pins HC b ∧ b < sC.heap.objs.size := fun b hb => by
    have lt := young b hb
    have nb : HC b = none := by
      rw [← eH, upd_ne (by rw [← eD]; exact Nat.ne_of_lt lt)]
      exact (fB b hb).1
    exact ⟨⟨nb, (fB b hb).2⟩, by rw [hC, Heap.size_push]; exact Nat.lt_succ_of_lt lt⟩
  have stC : tn 0 sC.heap := T.keep _ _ _ stB fun b _ o e => by rw [hC]; exact Heap.get?_push_of_some _ e
  -- the block
  have IE := block_start IC ok nd fC
  generalize eN : compEnvC sc (cellsFrom (sC.heap.objs.size + 1) sc.names (cloFrom X.env.cells sc.names [])) sC.heap.objs.size X.env = ce at IE
  have eL : ce.locals = sC.heap.objs.size := by rw [← eN]; rfl
  generalize eE : ({ sC with heap := pushCells (sC.heap.push { cls := .type "dict", data := .dict #[] }) sc.names } : Shared) = sE at IE
  have stE : tn 0 sE.heap := T.keep _ _ _ stC fun b _ o e => by rw [← eE]; exact pushCells_keeps _ _ _ _ (Heap.get?_push_of_some _ e)
  have stat : ∀ b ∈ fp, FpOk (X.blk sC HC sc ce fp) [] HC b := fun b hb =>
    ⟨(fC b hb).1.1, (IE.ok.exf b hb).1, IE.ok.exfs b hb, .inl hb, fun x c e => (IE.ok.exf b hb).2 x c e, fun p hp => by simp at hp⟩
  have back : ∀ s', Inv (X.blk sC HC sc ce fp) [] (wipe σ (own.map (·.2))) HC s' → compPost (model X.prog X.w) X.A X.xe none (EP X pins σ Q) (.ref D) sC.heap.objs.size (.ok .next) s' := fun s' IF => by
    have IG : Inv X pins σ HC s' := IC.call' (ch := fp) IF.os IF.base IF.hok IF.bare fun b hb => ⟨(fC b hb).1.2.2.2.1, (fC b hb).1.2.1, (fC b hb).1.2.2.2.2.1, (fC b hb).1.2.2.2.2.2⟩
    have nC : HC sC.heap.objs.size = none := by
      have z : HC ce.locals = none := IF.free
      rwa [eL] at z
    obtain ⟨m, hn, _⟩ := IF.loc
    have hn : s'.heap.Ns ce.locals m := hn
    rw [eL] at hn
    obtain ⟨f0, f1, f2, f3, f4, f5⟩ := IC.fpOk (Nat.le_refl _) nC
    exact ⟨m, hn, fun h'' sb => ⟨.ref D, HC, IG.turned (t' := s'.toks) (fun b o hb e => (sb.2 b hb).trans e) f0 f1 f3 f4 f5, rfl, q2⟩⟩
  have loop : codeAny (model X.prog X.w) X.A (.compLoop (.SetComp elt [⟨t0, i0, [], 0⟩, ⟨t1, i1, [], 0⟩] sc pos) 0 (.ref it) (.ref D) ce) (compPost (model X.prog X.w) X.A X.xe none (EP X pins σ Q) (.ref D) sC.heap.objs.size) sE :=
    loop_none (thnF (T.done (X.blk sC HC sc ce fp) rfl rfl rfl calm 0 [] sE _ HC (fun _ _ => False) IE stat stE q1) fun r s' hr => ⟨hr.1, back s' hr.2⟩)
  have fin := PpSet.codeAny_compStart_set loop (T.self X.A 0 _ _ _ stE loop)
  rw [← eN] at fin
  exact fin
end
end L2

set_option Elab.async false
set_option maxRecDepth 100000
set_option maxHeartbeats 4000000
set_option linter.all false
/-! sets of texts that can be walked: their members in a list, by an order of no meaning -/
namespace TS2
open PySem PySem.Spec PyProof.Rows L2 PySem.Froz
def wordAt (e : Int × Value) : Str := match e.2 with | .str k _ => k | _ => Str.empty
/-- what stands in a set: the texts l, each once, in a table that can be walked -/
structure TxR (P : PySem.Program) (w : World) (D : SD) (l : List Str) : Prop where
  ok : TxOk P w D l
  nd : l.Nodup
  keys : (D.1.toList.map wordAt).Perm l
  txt : ∀ e ∈ D.1.toList, ∃ k u, e.2 = Value.str k u
  ris : Ris D.2.2.place.toList
  led : w.params.followText "set-order" = true ∨ D.2.2.led = true
section
variable {P : PySem.Program} {w : World}
theorem TxR.none {ep : Nat} {t : SetTable} (hf : t.fits 0 = true) (hr : Ris t.place.toList) (hl : w.params.followText "set-order" = true ∨ t.led = true) : TxR P w (#[], ep, t) [] :=
  ⟨TxOk.nil hf, List.nodup_nil, List.Perm.refl _, fun e he => by simp at he, hr, hl⟩
theorem tail_fields (ep : Nat) (es1 : Array (Int × Value)) (t2 : SetTable) (wd : Bool) :
    (tailTx ep es1 t2 wd).1.toList.Perm es1.toList ∧ (Ris t2.place.toList → Ris (tailTx ep es1 t2 wd).2.2.place.toList) ∧ ((tailTx ep es1 t2 wd).2.2.led = t2.led) := by
  unfold tailTx
  by_cases c : (!wd && t2.tooFull) = true
  · rw [if_pos c]
    exact ⟨relayAll_perm t2 es1 _, fun _ => relayAll_ris t2 es1 _, relayAll_led t2 es1 _⟩
  · rw [if_neg c]
    exact ⟨List.Perm.refl _, id, rfl⟩
theorem TxR.add {D : SD} {l : List Str} {k : Str} (u : Tok) (F : TxR P w D l) (hk : k ∉ l) : TxR P w (addTx (hashStr w k) (.str k u) D) (k :: l) := by
  obtain ⟨es, ep, t⟩ := D
  have pm := layNew_perm t es (hashStr w k) (.str k u)
  have hr := layNew_ris t es (hashStr w k) (.str k u) F.ris
  have hl := layNew_led t es (hashStr w k) (.str k u)
  rw [Array.toList_push] at pm
  have pc := pm.trans (List.perm_append_singleton _ _)
  have tf := tail_fields ep (layNew t es (hashStr w k) (.str k u)).1 (if (layNew t es (hashStr w k) (.str k u)).2.1.plain = true then { (layNew t es (hashStr w k) (.str k u)).2.1 with plain := false } else (layNew t es (hashStr w k) (.str k u)).2.1) (layNew t es (hashStr w k) (.str k u)).2.2.1
  have pt := tf.1.trans pc
  refine ⟨add_ok u F.ok, List.nodup_cons.mpr ⟨hk, F.nd⟩, (pt.map wordAt).trans ?_, fun e he => ?_, tf.2.1 ?_, F.led.imp id fun z => ?_⟩
  · rw [List.map_cons]
    exact F.keys.cons _
  · rcases List.mem_cons.mp (pt.mem_iff.mp he) with z | z
    · exact ⟨k, u, by rw [z]⟩
    · exact F.txt e z
  · split
    · exact hr
    · exact hr
  · refine tf.2.2.trans ?_
    split
    · exact hl.trans z
    · exact hl.trans z
/-- the set of texts at a -/
def TxSet (P : PySem.Program) (w : World) (h : Heap) (a : Addr) (l : List Str) : Prop := ∃ D : SD, h.get? a = some (sObj "set" D) ∧ TxR P w D l
def TxO (P : PySem.Program) (w : World) (a : Addr) (l : List Str) : HO := .ext fun h => TxSet P w h a l
/-- k put into l -/
def put (l : List Str) (k : Str) : List Str := if k ∈ l then l else k :: l
theorem put_len (l : List Str) (k : Str) : (put l k).length ≤ l.length + 1 := by
  unfold put
  split
  · omega
  · exact Nat.le_refl _
theorem TxSet.keep {h h' : Heap} {a : Addr} {l : List Str} (R : TxSet P w h a l) (k : ∀ o, h.get? a = some o → h'.get? a = some o) : TxSet P w h' a l := by
  obtain ⟨D, e, r⟩ := R
  exact ⟨D, k _ e, r⟩
theorem txO_new {H : Hp} {h : Heap} {a : Addr} {l : List Str} (R : TxSet P w h a l) : ObjOk P w H h a (TxO P w a l) := by
  have ⟨D, e, _⟩ := R
  exact ⟨R, ⟨_, e⟩, fun h1 h2 p k => TxSet.keep p k⟩
theorem txSet_fresh {h : Heap} : TxSet P w (h.push { cls := .type "set", dict := Option.none, data := .set #[] 0 (.fresh 0 0 (!w.params.followText "set-order")) }) h.objs.size [] :=
  ⟨(#[], 0, _), Heap.get?_push_size _ rfl, TxR.none (by rfl) List.Pairwise.nil (by
    show _ ∨ (!w.params.followText "set-order") = true
    cases w.params.followText "set-order"
    · exact .inr rfl
    · exact .inl rfl)⟩
variable {A : Around} {E : Value → Shared → Prop} {s : Shared} {a : Addr} {l : List Str}
theorem hashed_old {D : SD} {k : Str} {u : Tok} {Q : Bool → Shared → Prop} (ho : s.heap.get? a = some (sObj "set" D)) (F : TxOk P w D l) (hk : k ∈ l) (hb : l.length < scanBound) (h : Q false s) :
    wpAny (model P w) A (setAddHashed a (.str k u) (hashStr w k)) Q E s := by
  obtain ⟨es, ep, t⟩ := D
  have hd : (sObj "set" (es, ep, t)).data = .set es ep t := rfl
  have hsz : es.size = l.length := F.sz
  have hb0 : es.size < scanBound := by omega
  have hkey : (strKind P w).is k (.str k u) = true := is_str k u
  unfold setAddHashed setAddHashedIn
  refine wpAny_holding (wpAny_bind (wpAny_setState_of ho hd F.fit ?_))
  dsimp only
  rw [byScan_of rfl hb0 F.el]
  simp only [↓reduceIte]
  unfold setAddByScan
  refine wpAny_bind ?_
  refine wpAny_bind (wpAny_rule ?_)
  refine wpAny_bind (wpAny_setScan_of (knd := strKind P w) (k := k) hkey ho hd F.fit F.el ?_)
  have hs : (List.findIdx? (fun e => (strKind P w).is k e.2) es.toList).isSome = true := by
    rw [List.findIdx?_isSome]
    obtain ⟨e, he, q⟩ := (F.mem k).mp hk
    exact List.any_eq_true.mpr ⟨e, he, q⟩
  obtain ⟨j, hj⟩ := Option.isSome_iff_exists.mp hs
  rw [hj]
  dsimp only
  exact wpAny_pure (wpAny_pure h)
theorem setTx_of {D : SD} (ho : s.heap.get? a = some (sObj "set" D)) (F : TxOk P w D l) (hb : l.length < scanBound) : s.heap.SetOf (strKind P w) a (fun k => decide (k ∈ l)) l.length := by
  obtain ⟨es, ep, t⟩ := D
  have hsz : es.size = l.length := F.sz
  exact ⟨_, es, ep, t, ho, ⟨rfl, rfl, rfl⟩, rfl, F.el, fun k => by rw [decide_eq_true_eq]; exact F.mem k, by rw [hsz]; exact hb, F.fit, hsz⟩
/-- s.add(k) -/
theorem tx_add {k : Str} {u : Tok} {Q : Value → Shared → Prop} (R : TxSet P w s.heap a l) (room : l.length + 1 < scanBound)
    (hQ : ∀ h', Heap.SameBut a s.heap h' → TxSet P w h' a (put l k) → Q .none { s with heap := h', toks := s.toks + 1 }) :
    wpAny (model P w) A (call (.builtin "set.add") [.ref a, .str k u]) Q E s := by
  obtain ⟨D, ho, G⟩ := R
  have hS := setTx_of ho G.ok (by omega)
  refine wpAny_call_entry F.slot_set_add hS.typeIs F.entry_set_add ?_ (F.args_set_add_2 _ _)
  unfold Builtin.«set.add» Builtin.Frozenset.oneOther
  simp only [List.isEmpty_nil, bind_assoc]
  unfold Builtin.Frozenset.addrOf setAdd
  refine wpAny_bind (wpAny_pure ?_)
  try dsimp only
  refine wpAny_bind (wpAny_pure ?_)
  try dsimp only
  refine wpAny_bind ?_
  refine wpAny_holding ?_
  refine wpAny_bind ((strKind P w).pyHash (is_str k u) ?_)
  by_cases hk : k ∈ l
  · refine hashed_old (s := { s with toks := s.toks + 1 }) ho G.ok hk (by omega) ?_
    show wpAny _ _ (ret Value.none) _ _ _
    exact wpAny_pure ⟨_, rfl, hQ s.heap (Heap.SameBut.refl a s.heap) ⟨D, ho, by rw [put, if_pos hk]; exact G⟩⟩
  · refine add_x (s := { s with toks := s.toks + 1 }) ho G.ok hk room ?_
    show wpAny _ _ (ret Value.none) _ _ _
    refine wpAny_pure ⟨_, rfl, hQ _ (Heap.SameBut.update s.heap a _) ⟨addTx (hashStr w k) (.str k u) D, get_upd _ ho rfl, ?_⟩⟩
    rw [put, if_neg hk]
    exact G.add u hk
end
section
variable {X : Cx}
theorem txO_get {pins : List (Addr × Obj)} {σ : L2.St} {H : Hp} {s : Shared} {a : Addr} {l : List Str} (I : Inv X pins σ H s) (ha : H a = some (TxO X.prog X.w a l)) : TxSet X.prog X.w s.heap a l := (I.hok a _ ha).1
theorem addT_ok {pins : List (Addr × Obj)} {σ : L2.St} {H : Hp} {s : Shared} {E : Value → Shared → Prop} {D : Addr} {l : List Str} {k : Str} {u : Tok} {Q : Value → Shared → Prop} (I : Inv X pins σ H s) (hD : H D = some (TxO X.prog X.w D l)) (room : l.length + 1 < scanBound)
    (h : ∀ s', Inv X pins σ (upd H D (TxO X.prog X.w D (put l k))) s' → Q .none s') : wpAny (model X.prog X.w) X.A (call (.builtin "set.add") [.ref D, .str k u]) Q E s := by
  refine tx_add (txO_get I hD) room fun h' sb new => ?_
  have ⟨_, e, _⟩ := id new
  exact h _ (I.write (e := D) (t' := s.toks + 1) (by rw [hD]; trivial) (.inl rfl) (fun b o hb hu => (sb.2 b hb).trans hu) ⟨_, e⟩ (txO_new new))
end
end TS2

set_option Elab.async false
set_option maxRecDepth 100000
set_option maxHeartbeats 4000000
set_option linter.all false
/-! {elt for t0 in i0 for t1 in i1}: texts into a new set -/
namespace TS2
open PySem PySem.Spec PyProof.Rows L2
abbrev SC2 (elt t0 i0 t1 i1 : Expr) (sc : Scope) (pos : Pos) : Expr := .SetComp elt [⟨t0, i0, [], 0⟩, ⟨t1, i1, [], 0⟩] sc pos
section
variable {P : PySem.Program} {w : World} {A : Around} {R : Result → Shared → Prop} {s : Shared} {elt t0 i0 t1 i1 : Expr} {sc : Scope} {pos : Pos} {it acc : Value} {env : Env}
theorem turn_out (elt t0 i0 t1 i1 : Expr) (sc : Scope) (pos : Pos) (it acc : Value) (env : Env) : compTurn (SC2 elt t0 i0 t1 i1 sc pos) 0 it acc env = (do
    standAt i0.pos
    match ← pyNext it with
    | none => pure (.done .next)
    | some v =>
      letOwnedTupleGo t0 it v
      assign t0 env v
      let x ← eval i1 env
      standAt i1.pos
      let x ← foldedSetIterable i1 env x
      let _ ← runOwn (.compStart (SC2 elt t0 i0 t1 i1 sc pos) 1 (← holding [x] (pyIter x)) acc env) env
      again (.compLoop (SC2 elt t0 i0 t1 i1 sc pos) 0 it acc env)) := by rfl
theorem turn_in (elt t0 i0 t1 i1 : Expr) (sc : Scope) (pos : Pos) (it acc : Value) (env : Env) : compTurn (SC2 elt t0 i0 t1 i1 sc pos) 1 it acc env = (do
    standAt i1.pos
    match ← pyNext it with
    | none => pure (.done .next)
    | some v =>
      letOwnedTupleGo t1 it v
      assign t1 env v
      (do let v ← eval elt env; standAt elt.pos; let _ ← call (.builtin "set.add") [acc, v])
      again (.compLoop (SC2 elt t0 i0 t1 i1 sc pos) 1 it acc env)) := by rfl
abbrev Nb (P : PySem.Program) (w : World) (A : Around) (env : Env) (R : Result → Shared → Prop) : Value → Shared → Prop := notedBy (model P w) A env fun e s' => R (.error e) s'
theorem loop_out (hs : ∀ x, foldedSetIterable i1 env x = pure x) (I : Nat → Shared → Prop)
    (turn : ∀ n s, I n s → wpAny (model P w) A (pyNext it) (fun r s1 => match r with
      | none => R (.ok .next) s1
      | some v => wpAny (model P w) A (letOwnedTupleGo t0 it v) (fun _ s2 => wpAny (model P w) A (assign t0 env v) (fun _ s3 =>
          wpAny (model P w) A (eval i1 env) (fun x s4 => wpAny (model P w) A (pyIter x) (fun it1 s5 =>
            codeAny (model P w) A (.compStart (SC2 elt t0 i0 t1 i1 sc pos) 1 it1 acc env) (fun r s' => match r with
              | .ok _ => ∃ m, m < n ∧ I m s'
              | .error _ => False) s5) (Nb P w A env R) s4) (Nb P w A env R) s3) (Nb P w A env R) s2) (Nb P w A env R) s1) (Nb P w A env R) s)
    (n : Nat) (h : I n s) : codeAny (model P w) A (.compLoop (SC2 elt t0 i0 t1 i1 sc pos) 0 it acc env) R s := by
  refine codeAny_loop rfl I (fun n s hI => ?_) n h
  show wpAny _ A ((compTurn (SC2 elt t0 i0 t1 i1 sc pos) 0 it acc env).onRaise (fun x => do noteFrame x env; theTreesLotGoes x)) _ _ s
  refine wpAny_noted ?_
  rw [turn_out]
  refine wpAny_bind (wpAny_standAt (wpAny_bind (wpAny_mono (turn n s hI) (fun r s1 g1 => ?_) fun _ _ z => z)))
  cases r with
  | none => exact wpAny_pure g1
  | some v =>
    refine wpAny_bind (wpAny_mono g1 (fun _ s2 g2 => ?_) fun _ _ z => z)
    refine wpAny_bind (wpAny_mono g2 (fun _ s3 g3 => ?_) fun _ _ z => z)
    refine wpAny_bind (wpAny_mono g3 (fun x s4 g4 => ?_) fun _ _ z => z)
    refine wpAny_bind (wpAny_standAt (wpAny_bind (wpAny_of_eq (hs x) (wpAny_bind (wpAny_holding (wpAny_mono g4 (fun it1 s5 g5 => ?_) fun _ _ z => z))))))
    refine wpAny_bind (wpAny_runOwn ?_)
    rw [Around.mark_none]
    refine codeAny_mono g5 fun r s' hr => ?_
    cases r with
    | ok f =>
      first
        | exact wpAny_pure ⟨rfl, hr⟩
        | exact wpAny_bind (wpAny_pure (wpAny_pure ⟨rfl, hr⟩))
    | error e => exact hr.elim
theorem loop_in (I : Nat → Shared → Prop)
    (turn : ∀ n s, I n s → wpAny (model P w) A (pyNext it) (fun r s1 => match r with
      | none => R (.ok .next) s1
      | some v => wpAny (model P w) A (letOwnedTupleGo t1 it v) (fun _ s2 => wpAny (model P w) A (assign t1 env v) (fun _ s3 =>
          wpAny (model P w) A (eval elt env) (fun x s4 => wpAny (model P w) A (call (.builtin "set.add") [acc, x]) (fun _ s5 => ∃ m, m < n ∧ I m s5) (Nb P w A env R) s4) (Nb P w A env R) s3) (Nb P w A env R) s2) (Nb P w A env R) s1) (Nb P w A env R) s)
    (n : Nat) (h : I n s) : codeAny (model P w) A (.compLoop (SC2 elt t0 i0 t1 i1 sc pos) 1 it acc env) R s := by
  refine codeAny_loop rfl I (fun n s hI => ?_) n h
  show wpAny _ A ((compTurn (SC2 elt t0 i0 t1 i1 sc pos) 1 it acc env).onRaise (fun x => do noteFrame x env; theTreesLotGoes x)) _ _ s
  refine wpAny_noted ?_
  rw [turn_in]
  refine wpAny_bind (wpAny_standAt (wpAny_bind (wpAny_mono (turn n s hI) (fun r s1 g1 => ?_) fun _ _ z => z)))
  cases r with
  | none => exact wpAny_pure g1
  | some v =>
    refine wpAny_bind (wpAny_mono g1 (fun _ s2 g2 => ?_) fun _ _ z => z)
    refine wpAny_bind (wpAny_mono g2 (fun _ s3 g3 => ?_) fun _ _ z => z)
    exact wpAny_bind (wpAny_bind (wpAny_mono g3 (fun x s4 g4 => wpAny_bind (wpAny_standAt (wpAny_bind (wpAny_mono g4 (fun _ s5 g5 => wpAny_pure (wpAny_pure ⟨rfl, g5⟩)) fun _ _ z => z)))) fun _ _ z => z))
theorem start_in (h0 : codeAny (model P w) A (.compLoop (SC2 elt t0 i0 t1 i1 sc pos) 1 it acc env) R s)
    (h : wpAny (model P w) A (pyIter it) (fun it' s' => codeAny (model P w) A (.compLoop (SC2 elt t0 i0 t1 i1 sc pos) 1 it' acc env) R s') (Nb P w A env R) s) :
    codeAny (model P w) A (.compStart (SC2 elt t0 i0 t1 i1 sc pos) 1 it acc env) R s := by
  refine codeAny_of_tree ?_
  show wpAny _ _ ((compStart (SC2 elt t0 i0 t1 i1 sc pos) 1 it acc env).onRaise (fun x => do noteFrame x env; standAt theWindowsPlace)) _ _ s
  refine wpAny_notedAt ?_
  unfold compStart
  show wpAny _ _ (ask >>= _) _ _ s
  refine wpAny_bind (wpAny_askSetting (wpAny_ite ?_))
  split
  · first
      | exact wpAny_bind (wpAny_pure (wpAny_pure (And.intro rfl h0)))
      | exact wpAny_pure (And.intro rfl h0)
  · first
      | exact wpAny_bind (wpAny_rule (wpAny_bind (wpAny_standAt (wpAny_bind (wpAny_mono h (fun it' s' q => wpAny_pure (And.intro rfl q)) fun _ _ x => x)))))
      | (refine wpAny_bind (wpAny_rule ?_); show wpAny _ _ (standAt i1.pos >>= _) _ _ s; exact wpAny_bind (wpAny_standAt (wpAny_bind (wpAny_mono h (fun it' s' q => wpAny_pure (And.intro rfl q)) fun _ _ x => x))))
end
section
variable {X : Cx}
/-- the reading: an outer walk by W, each turn of it an inner walk by W1, each turn of that puts a text into D -/
def tSc2 (P : PySem.Program) (w : World) (wi : TI) (g : TG) (wi1 : TI) (g1 : TG) (te : TE) (vs vs1 : List Nat) : TE := fun σ H Q => wi σ H fun J H1 => ∀ D, H1 D = none → ∃ W : Nat → Nat → Hp → Prop, (∃ m, W 0 m (upd H1 D (TxO P w D []))) ∧ ∀ i m H, W i m H →
  (J.stop i H ∧ Q (.ref D) H) ∨ (J.go i H ∧ ∃ Nx : Hp → Prop, (∀ H', Nx H' → ∃ m', m' < m ∧ W (i + 1) m' H') ∧ ∀ x H', J.yld i H x H' → g x (wipe σ vs) H' fun σ2 H2 => wipe σ2 vs = wipe σ vs ∧
    wi1 σ2 H2 fun J1 H4 => ∃ W1 : Nat → Nat → Hp → Prop, (∃ m, W1 0 m H4) ∧ ∀ j k H, W1 j k H →
      (J1.stop j H ∧ Nx H) ∨ (J1.go j H ∧ ∃ Nx1 : Hp → Prop, (∀ H', Nx1 H' → ∃ k', k' < k ∧ W1 (j + 1) k' H') ∧ ∀ x H', J1.yld j H x H' → g1 x (wipe σ2 vs1) H' fun σ3 H5 => wipe σ3 vs1 = wipe σ2 vs1 ∧
        te σ3 H5 fun y H7 => ∃ (k : Str) (l : List Str), y = .str k ∧ H7 D = some (TxO P w D l) ∧ l.length + 1 < scanBound ∧ Nx1 (upd H7 D (TxO P w D (put l k)))))
theorem pe_sc2 {elt t0 i0 t1 i1 : Expr} {sc : Scope} {own : List (Str × Nat)} {vs1 : List Nat} {pos : Pos} {wi wi1 : TI} {g g1 : TG} {te : TE} (calm : X.calm = true) (nd : X.N.Nodup) (hi : PI X t0 i0 wi) (ok : BlkOk X.N X.env.scope sc own) (hv : ∀ i ∈ vs1, i ∈ own.map (·.2))
    (hg : ∀ (s : Shared) (H : Hp) (C : Addr) (cl : List (Str × Addr)) (fp : List Addr), PG (X.blk s H sc (compEnvC sc cl C X.env) fp) t0 g)
    (hi1 : ∀ (s : Shared) (H : Hp) (C : Addr) (cl : List (Str × Addr)) (fp : List Addr), PI (X.blk s H sc (compEnvC sc cl C X.env) fp) t1 i1 wi1)
    (hg1 : ∀ (s : Shared) (H : Hp) (C : Addr) (cl : List (Str × Addr)) (fp : List Addr), PG (X.blk s H sc (compEnvC sc cl C X.env) fp) t1 g1)
    (he : ∀ (s : Shared) (H : Hp) (C : Addr) (cl : List (Str × Addr)) (fp : List Addr), PE (X.blk s H sc (compEnvC sc cl C X.env) fp) elt te) (hs : ∀ x, foldedSetIterable i0 X.env x = pure x := by intro _; rfl)
    (hs1 : ∀ env x, foldedSetIterable i1 env x = pure x := by intro _ _; rfl) : PE X (SC2 elt t0 i0 t1 i1 sc pos) (tSc2 X.prog X.w wi g wi1 g1 te (own.map (·.2)) vs1) := by
  refine ⟨fun pins s σ H Q I h => ?_⟩
  rw [PpSet.eval_SetComp]
  have frees : ∀ y ∈ sc.names, y.2 = .free → ∃ c, X.env.cells.lookup y.1 = some c := fun y hy e =>
    (ok.free y hy e).elim (fun z => I.ok.has _ (.inl z)) fun z => I.ok.has _ (.inr z)
  refine wpAny_comprehension_free (use := none) rfl hs (closure_ok frees) ok.kind (fun y hy e => by rw [ok.uniq y hy, e]) (thn (hi.run pins s σ H _ I h) fun xv sA hx => thn hx fun itv sB hB => ?_)
  obtain ⟨it, fp, tn, J, HB, rfl, IB, T, stB, fB, q⟩ := hB
  refine PpSet.newSet_ok (newEnv_comp ?_)
  obtain ⟨W, ⟨m0, w0⟩, turn⟩ := q sB.heap.objs.size (IB.hok.fresh (Nat.le_refl _))
  generalize eD : sB.heap.objs.size = D at w0 turn
  generalize eC : ({ sB with heap := sB.heap.push { cls := .type "set", dict := none, data := .set #[] 0 (.fresh 0 0 (!X.w.params.followText "set-order")) } } : Shared) = sC
  have hC : sC.heap = sB.heap.push { cls := .type "set", dict := none, data := .set #[] 0 (.fresh 0 0 (!X.w.params.followText "set-order")) } := by rw [← eC]
  generalize eH : upd HB D (TxO X.prog X.w D []) = HC at w0
  have IC : Inv X pins σ HC sC := by
    rw [← eC, ← eH]
    refine IB.laid (t' := sB.toks) (fun b o e => Heap.get?_push_of_some _ e) (Nat.le_of_eq eD) (txO_new ?_)
    rw [← eD]
    exact txSet_fresh
  have young : ∀ b ∈ fp, b < sB.heap.objs.size := fun b hb => (T.obj _ _ stB b hb).elim fun o e => Heap.lt_size e.1
  have fC : ∀ b ∈ fp, FpOk X pins HC b ∧ b < sC.heap.objs.size := fun b hb => by
    have lt := young b hb
    have nb : HC b = none := by
      rw [← eH, upd_ne (by rw [← eD]; exact Nat.ne_of_lt lt)]
      exact (fB b hb).1
    exact ⟨⟨nb, (fB b hb).2⟩, by rw [hC, Heap.size_push]; exact Nat.lt_succ_of_lt lt⟩
  have stC : tn 0 sC.heap := T.keep _ _ _ stB fun b _ o e => by rw [hC]; exact Heap.get?_push_of_some _ e
  have IE := block_start IC ok nd fC
  have pg := hg sC HC sC.heap.objs.size (cellsFrom (sC.heap.objs.size + 1) sc.names (cloFrom X.env.cells sc.names [])) fp
  have pe := he sC HC sC.heap.objs.size (cellsFrom (sC.heap.objs.size + 1) sc.names (cloFrom X.env.cells sc.names [])) fp
  have pi1 := hi1 sC HC sC.heap.objs.size (cellsFrom (sC.heap.objs.size + 1) sc.names (cloFrom X.env.cells sc.names [])) fp
  have pg1 := hg1 sC HC sC.heap.objs.size (cellsFrom (sC.heap.objs.size + 1) sc.names (cloFrom X.env.cells sc.names [])) fp
  show codeAny _ _ (.compStart (SC2 elt t0 i0 t1 i1 sc pos) 0 (.ref it) (.ref D) (compEnvC sc (cellsFrom (sC.heap.objs.size + 1) sc.names (cloFrom X.env.cells sc.names [])) sC.heap.objs.size X.env)) (compPost (model X.prog X.w) X.A X.xe none (EP X pins σ Q) (.ref D) sC.heap.objs.size) { sC with heap := pushCells (sC.heap.push { cls := .type "dict", data := .dict #[] }) sc.names }
  generalize eN : compEnvC sc (cellsFrom (sC.heap.objs.size + 1) sc.names (cloFrom X.env.cells sc.names [])) sC.heap.objs.size X.env = ce at IE pg pe pi1 pg1 ⊢
  have eL : ce.locals = sC.heap.objs.size := by rw [← eN]; rfl
  generalize eE : ({ sC with heap := pushCells (sC.heap.push { cls := .type "dict", data := .dict #[] }) sc.names } : Shared) = sE at IE ⊢
  have stE : tn 0 sE.heap := T.keep _ _ _ stC fun b _ o e => by rw [← eE]; exact pushCells_keeps _ _ _ _ (Heap.get?_push_of_some _ e)
  have nfp : ∀ b ∈ fp, HC b = none := fun b hb => (fC b hb).1.1
  have stat : ∀ {σ' : L2.St} {H' : Hp} {s' : Shared}, Inv (X.blk sC HC sc ce fp) [] σ' H' s' → (∀ b ∈ fp, H' b = none) → ∀ b ∈ fp, FpOk (X.blk sC HC sc ce fp) [] H' b := fun {σ' H' s'} I' hn b hb =>
    ⟨hn b hb, (I'.ok.exf b hb).1, I'.ok.exfs b hb, .inl hb, fun x c e => (I'.ok.exf b hb).2 x c e, fun p hp => by simp at hp⟩
  have loop : codeAny (model X.prog X.w) X.A (.compLoop (SC2 elt t0 i0 t1 i1 sc pos) 0 (.ref it) (.ref D) ce) (compPost (model X.prog X.w) X.A X.xe none (EP X pins σ Q) (.ref D) sC.heap.objs.size) sE := by
    refine loop_out (hs1 ce) (fun n s' => ∃ i H', Inv (X.blk sC HC sc ce fp) [] (wipe σ (own.map (·.2))) H' s' ∧ tn i s'.heap ∧ (∀ b ∈ fp, H' b = none) ∧ W i n H') ?_ m0 ⟨0, HC, IE, stE, nfp, w0⟩
    rintro n s5 ⟨i, H5, I5, st5, n5, w5⟩
    rcases turn i n H5 w5 with ⟨stop, qq⟩ | ⟨go, Nx, hNx, step⟩
    · refine thnF (T.done (X.blk sC HC sc ce fp) rfl rfl rfl calm i [] s5 _ H5 (fun _ _ => False) I5 (stat I5 n5) st5 stop) fun r s6 ⟨hr, I6⟩ => ?_
      subst hr
      have IG : Inv X pins σ H5 s6 := IC.call' (ch := fp) I6.os I6.base I6.hok I6.bare fun b hb => ⟨(fC b hb).1.2.2.2.1, (fC b hb).1.2.1, (fC b hb).1.2.2.2.2.1, (fC b hb).1.2.2.2.2.2⟩
      have nC : H5 sC.heap.objs.size = none := by
        have z : H5 ce.locals = none := I6.free
        rwa [eL] at z
      obtain ⟨m, hn, _⟩ := I6.loc
      have hn : s6.heap.Ns ce.locals m := hn
      rw [eL] at hn
      obtain ⟨f0, f1, f2, f3, f4, f5⟩ := IC.fpOk (Nat.le_refl _) nC
      exact ⟨m, hn, fun h'' sb => ⟨.ref D, H5, IG.turned (t' := s6.toks) (fun b o hb e => (sb.2 b hb).trans e) f0 f1 f3 f4 f5, rfl, qq⟩⟩
    · refine thnF (T.item (X.blk sC HC sc ce fp) rfl rfl rfl calm i [] s5 _ H5 (fun _ _ => False) I5 (stat I5 n5) st5 go) fun r s6 ⟨u, hr, h6⟩ => ?_
      subst hr
      refine thnF h6 fun _ s7 ⟨x, H7, I7, r7, y7, st7, n7⟩ => ?_
      have I7' := I7.pinned (stat I7 n7) (T.obj _ _ st7)
      refine thnF (pg.run _ s7 _ H7 x u _ I7' r7 (step x H7 y7)) fun _ s8 ⟨σ8, H8, I8, hw8, q8⟩ => ?_
      have fin : ∀ {σ9 : L2.St} {s' : Shared} {H' : Hp}, Inv (X.blk sC HC sc ce fp) ([] ++ pinsAt fp s7.heap) σ9 H' s' → (wipe σ (own.map (·.2))).length = σ9.length → (∀ (j : Nat) v, (wipe σ (own.map (·.2)))[j]? = some (some v) → σ9[j]? = some (some v)) → Nx H' →
          ∃ m, m < n ∧ ∃ i H', Inv (X.blk sC HC sc ce fp) [] (wipe σ (own.map (·.2))) H' s' ∧ tn i s'.heap ∧ (∀ b ∈ fp, H' b = none) ∧ W i m H' := fun {σ9 s' H'} I' hl hk nx => by
        obtain ⟨m', hm, w'⟩ := hNx H' nx
        have pin' : ∀ b ∈ fp, ∀ o, s7.heap.get? b = some o → s'.heap.get? b = some o ∧ H' b = none := fun b hb o e =>
          let z := I'.pin (b, o) (List.mem_append_right _ (List.mem_append_right _ (mem_pinsAt hb e)))
          ⟨z.1, z.2.1⟩
        refine ⟨m', hm, i + 1, H', (I'.unpinned (pins := [])).weak hl hk, T.keep _ _ _ st7 fun b hb o e => (pin' b hb o e).1, fun b hb => ?_, w'⟩
        obtain ⟨o, e, _⟩ := T.obj _ _ st7 b hb
        exact (pin' b hb o e).2
      have hl8 : (wipe σ (own.map (·.2))).length = σ8.length := by rw [← hw8, wipe_length]
      have hk9 : ∀ (j : Nat) v, (wipe σ (own.map (·.2)))[j]? = some (some v) → (wipe σ8 vs1)[j]? = some (some v) := fun j v e => by
        rw [← hw8] at e
        obtain ⟨e1, e2⟩ := wipe_some e
        rw [wipe_out fun z => e2 (hv j z)]
        exact e1
      refine thnF (pi1.run _ s8 σ8 H8 _ I8 q8) fun xv s10 hx => thnF hx fun itv s11 h11 => ?_
      obtain ⟨it1, fp1, tn1, J1, H11, e1, I11, T1, st11, f11, W1, ⟨m1, w1⟩, turn1⟩ := h11
      subst e1
      have stat1 : ∀ {H' : Hp}, (∀ b ∈ fp1, H' b = none) → ∀ b ∈ fp1, FpOk (X.blk sC HC sc ce fp) ([] ++ pinsAt fp s7.heap) H' b := fun hn b hb => ⟨hn b hb, (f11 b hb).2⟩
      have loop1 : codeAny (model X.prog X.w) X.A (.compLoop (SC2 elt t0 i0 t1 i1 sc pos) 1 (.ref it1) (.ref D) ce)
          (fun r s' => match r with
            | .ok _ => ∃ m, m < n ∧ ∃ i H', Inv (X.blk sC HC sc ce fp) [] (wipe σ (own.map (·.2))) H' s' ∧ tn i s'.heap ∧ (∀ b ∈ fp, H' b = none) ∧ W i m H'
            | .error _ => False) s11 := by
        refine loop_in (fun k s' => ∃ j H', Inv (X.blk sC HC sc ce fp) ([] ++ pinsAt fp s7.heap) (wipe σ8 vs1) H' s' ∧ tn1 j s'.heap ∧ (∀ b ∈ fp1, H' b = none) ∧ W1 j k H') ?_ m1 ⟨0, H11, I11.weak (wipe_length _ _) (fun j v e => (wipe_some e).1), st11, fun b hb => (f11 b hb).1, w1⟩
        rintro k s12 ⟨j, H12, I12, st12, n12, w12⟩
        rcases turn1 j k H12 w12 with ⟨stop1, nx1⟩ | ⟨go1, Nx1, hNx1, step1⟩
        · refine thnF (T1.done (X.blk sC HC sc ce fp) rfl rfl rfl calm j _ s12 (wipe σ8 vs1) H12 (fun _ _ => False) I12 (stat1 n12) st12 stop1) fun r s13 ⟨hr, I13⟩ => ?_
          subst hr
          exact fin I13 (hl8.trans (wipe_length σ8 vs1).symm) hk9 nx1
        · refine thnF (T1.item (X.blk sC HC sc ce fp) rfl rfl rfl calm j _ s12 (wipe σ8 vs1) H12 (fun _ _ => False) I12 (stat1 n12) st12 go1) fun r s13 ⟨u1, hr, h13⟩ => ?_
          subst hr
          refine thnF h13 fun _ s14 ⟨x1, H14, I14, r14, y14, st14, n14⟩ => ?_
          have I14' := I14.pinned (stat1 n14) (T1.obj _ _ st14)
          refine thnF (pg1.run _ s14 (wipe σ8 vs1) H14 x1 u1 _ I14' r14 (step1 x1 H14 y14)) fun _ s15 ⟨σ15, H15, I15, hw15, q15⟩ => ?_
          have fin1 : ∀ {s' : Shared} {H' : Hp}, Inv (X.blk sC HC sc ce fp) (([] ++ pinsAt fp s7.heap) ++ pinsAt fp1 s14.heap) σ15 H' s' → Nx1 H' → ∃ m, m < k ∧ ∃ j H', Inv (X.blk sC HC sc ce fp) ([] ++ pinsAt fp s7.heap) (wipe σ8 vs1) H' s' ∧ tn1 j s'.heap ∧ (∀ b ∈ fp1, H' b = none) ∧ W1 j m H' := fun {s' H'} I' nx => by
            obtain ⟨m', hm, w'⟩ := hNx1 H' nx
            have pin' : ∀ b ∈ fp1, ∀ o, s14.heap.get? b = some o → s'.heap.get? b = some o ∧ H' b = none := fun b hb o e =>
              let z := I'.pin (b, o) (List.mem_append_right _ (List.mem_append_right _ (mem_pinsAt hb e)))
              ⟨z.1, z.2.1⟩
            refine ⟨m', hm, j + 1, H', I'.unpinned.weak (by rw [← hw15, wipe_length]) (fun j v e => by rw [← hw15] at e; exact (wipe_some e).1), T1.keep _ _ _ st14 fun b hb o e => (pin' b hb o e).1, fun b hb => ?_, w'⟩
            obtain ⟨o, e, _⟩ := T1.obj _ _ st14 b hb
            exact (pin' b hb o e).2
          refine thnF (pe.run _ s15 σ15 H15 _ I15 q15) fun z s17 ⟨yv, H17, I17, r17, ck, cl, ey, hD17, hz17, nx⟩ => ?_
          subst ey
          obtain ⟨tk, rfl⟩ := r17
          exact addT_ok (X := X.blk sC HC sc ce fp) I17 hD17 hz17 fun s18 I18 => fin1 I18 nx
      exact start_in loop1 (T1.self X.A 0 _ _ _ st11 loop1)
  exact PpSet.codeAny_compStart_set loop (T.self X.A 0 _ _ _ stE loop)
end
end TS2

set_option Elab.async false
set_option maxRecDepth 100000
set_option maxHeartbeats 4000000
set_option linter.all false
/-! sorted of a set of texts -/
namespace TS2
open PySem PySem.Spec PyProof.Rows L2 PySem.Froz
section
variable {P : PySem.Program} {w : World} {A : Around} {E : Value → Shared → Prop} {s : Shared} {a : Addr} {l : List Str}
theorem strs_out : ∀ (vs : List Value), (∀ v ∈ vs, ∃ k u, v = Value.str k u) → StrsAre vs (vs.map fun v => wordAt (0, v))
  | [], _ => .nil
  | v :: vs, h => by
    obtain ⟨k, u, rfl⟩ := h v List.mem_cons_self
    exact .cons k u (strs_out vs fun x hx => h x (List.mem_cons_of_mem _ hx))
theorem tx_sorted {Q : Value → Shared → Prop} (R : TxSet P w s.heap a l) (hh : A.handled = none) (hn : l.length < scanBound)
    (hQ : ∀ s' p (out : Array Value) (c : Nat) (ys : List Str), (∀ b o, s.heap.get? b = some o → s'.heap.get? b = some o) → s'.gens = s.gens → s'.os = s.os → s.heap.objs.size ≤ p →
      s'.heap.get? p = some (seqObj "list" out c) → StrsAre out.toList ys → ys.Perm l → sortedS ys = true → Q (.ref p) s') :
    wpAny (model P w) A (call (.builtin "sorted") [.ref a]) Q E s := by
  obtain ⟨⟨es, ep, t⟩, ho, G⟩ := R
  have hsz : es.size = l.length := G.ok.sz
  have hb : es.size < scanBound := by rw [hsz]; exact hn
  refine Calls.call_function_entry kind_sorted plain_sorted entry_sorted (args_sorted1 _) ?_
  unfold Builtin.«sorted»
  refine wpAny_bind (m := checkCount "sorted" 1 1 _) (wpAny_pure ?_)
  refine wpAny_bind (collect_set (A := A.in1) hh (⟨_, ho, rfl, rfl⟩ : SetAt s.heap a es ep t) G.ok.fit hb G.ris G.led fun s1 vs k1 hz g1 o1 pm => ?_)
  have hvl : vs.length = l.length := by rw [pm.length_eq, List.length_map, Array.length_toList]; exact hsz
  have hS : StrsAre vs (vs.map fun v => wordAt (0, v)) := strs_out vs fun v hv => by
    obtain ⟨e, he, q⟩ := List.mem_map.mp (pm.mem_iff.mp hv)
    obtain ⟨k, u, h1⟩ := G.txt e he
    exact ⟨k, u, by rw [← q]; exact h1⟩
  have pk : (vs.map fun v => wordAt (0, v)).Perm l := by
    have q := pm.map fun v => wordAt (0, v)
    rw [List.map_map] at q
    exact q.trans G.keys
  have fits : vs.length ≤ sizeLine := by rw [hvl]; exact fits_of_scanBound hn
  refine wpAny_bind (wpAny_newList ?_ fits)
  have hoL : (s1.heap.push (seqObj "list" vs.toArray 0)).get? s1.heap.objs.size = some (seqObj "list" vs.toArray 0) := Heap.get?_push_size _ rfl
  refine wpAny_bind (wpAny_holding (wpAny_call_entry slot_list_sort ⟨_, hoL, rfl⟩ entry_list_sort
    (list_sort_treeKAny strKind_oneLt (s := { s1 with heap := s1.heap.push (seqObj "list" vs.toArray 0) }) hoL hS.keysOf (fun v₁ v₂ rest e => keyKind_strs (by rw [← e]; exact hS)) fits fun st' hp hs => ⟨_, rfl, ?_⟩) (args_list_sort _)))
  obtain ⟨ys, e1, e2, e3⟩ := sorted_out_str hS hp hs
  obtain ⟨c, hc⟩ := sortedHeap_at (vs := vs) (out := (arrOf st').map (·.2)) hoL
  refine wpAny_pure ⟨_, rfl, hQ _ s1.heap.objs.size _ c ys (fun b u e => ?_) g1 o1 hz hc e1 (e2.trans pk) e3⟩
  have q := k1 b u e
  have hlt := Heap.lt_size q
  show (sortedHeap (s1.heap.push (seqObj "list" vs.toArray 0)) s1.heap.objs.size vs _).get? b = some u
  rw [sortedHeap_old (Nat.ne_of_lt hlt) (by rw [size_push']; exact Nat.lt_succ_of_lt hlt)]
  exact Heap.get?_push_of_some _ q
end
section
variable {X : Cx}
def rSortedTx (P : PySem.Program) (w : World) : List V → Hp → VK → Prop := fun vs H Q => ∃ (a : Addr) (l : List Str), vs = [V.ref a] ∧ H a = some (TxO P w a l) ∧ l.length < scanBound ∧
  ∀ (ys : List Str) (p : Addr), ys.Perm l → sortedS ys = true → H p = none → Q (.ref p) (upd H p (.lst (ys.map V.str)))
theorem cr_sortedTx (hc : X.calm = true) : CallR X (.builtin "sorted") (rSortedTx X.prog X.w) := by
  intro pins s σ H vs us Q I r h
  obtain ⟨a, l, rfl, ha, hn, q⟩ := h
  rw [Vals.ref1 r]
  refine tx_sorted (txO_get I ha) (I.ok.hd hc) hn fun s' p out c ys k g o hp hg hS pm hs => ?_
  have hlen : (ys.map V.str).length ≤ sizeLine := by rw [List.length_map, pm.length_eq]; exact fits_of_scanBound hn
  have hf : H p = none := I.hok.fresh hp
  have J : Inv X pins σ (upd H p (.lst (ys.map V.str))) { s with heap := s'.heap, gens := s'.gens, drawn := s'.drawn, toks := s'.toks } :=
    I.call (ch := []) (Un.laid k hp hf) (I.hok.laid k hp ⟨hlen, out.toList, c, vals_of_strs hS, hg⟩) (by rw [g]; exact I.bare) (fun _ z => nomatch z)
  have e : s' = { s with heap := s'.heap, gens := s'.gens, drawn := s'.drawn, toks := s'.toks } := by
    cases s'
    cases s
    cases o
    rfl
  rw [e]
  exact ⟨.ref p, _, J, rfl, q ys p pm hs hf⟩
end
end TS2

set_option Elab.async false
set_option maxRecDepth 100000
set_option maxHeartbeats 4000000
set_option linter.all false
/-! {path: v for .. in ..}: keys that are tuples of ints and texts -/
namespace TS2
open PySem PySem.Spec PyProof.Rows L2
section
variable {X : Cx}
theorem dT_set {pins : List (Addr × Obj)} {σ : L2.St} {H : Hp} {s : Shared} {E : Value → Shared → Prop} {D b : Addr} {kvs : List (List Key × V)} {k : List Key} {v : V} {r : Value} {Q : Unit → Shared → Prop} (hu : X.A.units + 1 < cLine) (I : Inv X pins σ H s) (hD : H D = some (.dT kvs)) (hz : kvs.length < sizeLine)
    (hb : H b = some (.tup (k.map kV))) (rv : RelV v r) (h : ∀ s', Inv X pins σ (upd H D (.dT (putK kvs k v))) s' → Q () s') : wpAny (model X.prog X.w) X.A (dictSet D (.ref b) r) Q E s := by
  obtain ⟨z, hd, xs, rel, dd⟩ := dt_of I.hok hD
  have hz' : xs.length ≤ sizeLine := by rw [← Paired.length rel]; exact z
  have hl : (putK kvs k v).length ≤ sizeLine := by have := length_putK kvs k v; omega
  refine wpAny_dictSet_heap (hsz := hz') (show X.A.units < cLine by omega) (key_of I.hok hb) dd fun h' dd' hs => h _ ?_
  obtain ⟨q, es, ep, hq, h2, h3, h4, _, h5⟩ := dd'
  refine d_write I (by rw [hD]; exact True.intro) hs ⟨q, hq⟩ ⟨hl, hd, _, (rel.put k hb rv).keeps fun c ys ec => ?_, q, es, ep, hq, h2, h3, h4, h5⟩
  rw [upd_ne (ne_of ec hD (fun z => nomatch z))]
  exact ec
def tDcT (wi : TI) (g : TG) (tk tv : TE) (vs : List Nat) : TE := fun σ H Q => wi σ H fun J H1 => ∀ D, H1 D = none → ∃ W : Nat → Nat → Hp → Prop, (∃ m, W 0 m (upd H1 D (.dT []))) ∧ ∀ i m H, W i m H →
  (J.stop i H ∧ Q (.ref D) H) ∨ (J.go i H ∧ ∃ Nx : Hp → Prop, (∀ H', Nx H' → ∃ m', m' < m ∧ W (i + 1) m' H') ∧ ∀ x H', J.yld i H x H' → g x (wipe σ vs) H' fun σ2 H2 => wipe σ2 vs = wipe σ vs ∧
    tk σ2 H2 fun y H4 => tv σ2 H4 fun z H5 => ∃ kvs k b, y = .ref b ∧ H5 b = some (.tup (k.map kV)) ∧ H5 D = some (.dT kvs) ∧ kvs.length < sizeLine ∧ Nx (upd H5 D (.dT (putK kvs k z))))
theorem pe_dcT {kx vx tg iter : Expr} {sc : Scope} {own : List (Str × Nat)} {pos : Pos} {wi : TI} {g : TG} {tk tv : TE} (hu : X.A.units + 1 < cLine) (calm : X.calm = true) (nd : X.N.Nodup) (hi : PI X tg iter wi) (ok : BlkOk X.N X.env.scope sc own)
    (hg : ∀ (s : Shared) (H : Hp) (C : Addr) (cl : List (Str × Addr)) (fp : List Addr), PG (X.blk s H sc (compEnvC sc cl C X.env) fp) tg g)
    (hk : ∀ (s : Shared) (H : Hp) (C : Addr) (cl : List (Str × Addr)) (fp : List Addr), PE (X.blk s H sc (compEnvC sc cl C X.env) fp) kx tk)
    (he : ∀ (s : Shared) (H : Hp) (C : Addr) (cl : List (Str × Addr)) (fp : List Addr), PE (X.blk s H sc (compEnvC sc cl C X.env) fp) vx tv) (hs : ∀ x, foldedSetIterable iter X.env x = pure x := by intro _; rfl) :
    PE X (.DictComp kx vx [⟨tg, iter, [], 0⟩] sc pos) (tDcT wi g tk tv (own.map (·.2))) := by
  refine ⟨fun pins s σ H Q I h => ?_⟩
  rw [arm_eval_DictComp]
  have frees : ∀ y ∈ sc.names, y.2 = .free → ∃ c, X.env.cells.lookup y.1 = some c := fun y hy e =>
    (ok.free y hy e).elim (fun z => I.ok.has _ (.inl z)) fun z => I.ok.has _ (.inr z)
  refine wpAny_comprehension_free (use := none) rfl hs (closure_ok frees) ok.kind (fun y hy e => by rw [ok.uniq y hy, e]) (thn (hi.run pins s σ H _ I h) fun xv sA hx => thn hx fun itv sB hB => ?_)
  obtain ⟨it, fp, tn, J, HB, rfl, IB, T, stB, fB, q⟩ := hB
  refine wpAny_newObj_type (newEnv_comp ?_)
  obtain ⟨W, ⟨m0, w0⟩, turn⟩ := q sB.heap.objs.size (IB.hok.fresh (Nat.le_refl _))
  generalize eD : sB.heap.objs.size = D at w0 turn
  generalize eC : ({ sB with heap := sB.heap.push { cls := .type "dict", data := .dict #[] } } : Shared) = sC
  have hC : sC.heap = sB.heap.push { cls := .type "dict", data := .dict #[] } := by rw [← eC]
  generalize eH : upd HB D (.dT []) = HC at w0
  have IC : Inv X pins σ HC sC := by
    rw [← eC, ← eH]
    refine IB.laid (t' := sB.toks) (fun b o e => Heap.get?_push_of_some _ e) (Nat.le_of_eq eD) ?_
    rw [← eD]
    exact dt_empty sB.heap IB.big
  have young : ∀ b ∈ fp, b < sB.heap.objs.size := fun b hb => (T.obj _ _ stB b hb).elim fun o e => Heap.lt_size e.1
  have fC : ∀ b ∈ fp, FpOk X pins HC b ∧ b < sC.heap.objs.size := fun b hb => by
    have lt := young b hb
    have nb : HC b = none := by
      rw [← eH, upd_ne (by rw [← eD]; exact Nat.ne_of_lt lt)]
      exact (fB b hb).1
    exact ⟨⟨nb, (fB b hb).2⟩, by rw [hC, Heap.size_push]; exact Nat.lt_succ_of_lt lt⟩
  have stC : tn 0 sC.heap := T.keep _ _ _ stB fun b _ o e => by rw [hC]; exact Heap.get?_push_of_some _ e
  have IE := block_start IC ok nd fC
  have pg := hg sC HC sC.heap.objs.size (cellsFrom (sC.heap.objs.size + 1) sc.names (cloFrom X.env.cells sc.names [])) fp
  have pk := hk sC HC sC.heap.objs.size (cellsFrom (sC.heap.objs.size + 1) sc.names (cloFrom X.env.cells sc.names [])) fp
  have pe := he sC HC sC.heap.objs.size (cellsFrom (sC.heap.objs.size + 1) sc.names (cloFrom X.env.cells sc.names [])) fp
  show codeAny _ _ (.compStart (.DictComp kx vx [⟨tg, iter, [], 0⟩] sc pos) 0 (.ref it) (.ref D) (compEnvC sc (cellsFrom (sC.heap.objs.size + 1) sc.names (cloFrom X.env.cells sc.names [])) sC.heap.objs.size X.env)) (compPost (model X.prog X.w) X.A X.xe none (EP X pins σ Q) (.ref D) sC.heap.objs.size) { sC with heap := pushCells (sC.heap.push { cls := .type "dict", data := .dict #[] }) sc.names }
  generalize eN : compEnvC sc (cellsFrom (sC.heap.objs.size + 1) sc.names (cloFrom X.env.cells sc.names [])) sC.heap.objs.size X.env = ce at IE pg pk pe ⊢
  have eL : ce.locals = sC.heap.objs.size := by rw [← eN]; rfl
  generalize eE : ({ sC with heap := pushCells (sC.heap.push { cls := .type "dict", data := .dict #[] }) sc.names } : Shared) = sE at IE ⊢
  have stE : tn 0 sE.heap := T.keep _ _ _ stC fun b _ o e => by rw [← eE]; exact pushCells_keeps _ _ _ _ (Heap.get?_push_of_some _ e)
  have nfp : ∀ b ∈ fp, HC b = none := fun b hb => (fC b hb).1.1
  have stat : ∀ {σ' : L2.St} {H' : Hp} {s' : Shared}, Inv (X.blk sC HC sc ce fp) [] σ' H' s' → (∀ b ∈ fp, H' b = none) → ∀ b ∈ fp, FpOk (X.blk sC HC sc ce fp) [] H' b := fun {σ' H' s'} I' hn b hb =>
    ⟨hn b hb, (I'.ok.exf b hb).1, I'.ok.exfs b hb, .inl hb, fun x c e => (I'.ok.exf b hb).2 x c e, fun p hp => by simp at hp⟩
  have loop : codeAny (model X.prog X.w) X.A (.compLoop (.DictComp kx vx [⟨tg, iter, [], 0⟩] sc pos) 0 (.ref it) (.ref D) ce) (compPost (model X.prog X.w) X.A X.xe none (EP X pins σ Q) (.ref D) sC.heap.objs.size) sE := by
    refine compLoop_anyD (fun n s' => ∃ i H', Inv (X.blk sC HC sc ce fp) [] (wipe σ (own.map (·.2))) H' s' ∧ tn i s'.heap ∧ (∀ b ∈ fp, H' b = none) ∧ W i n H') ?_ m0 ⟨0, HC, IE, stE, nfp, w0⟩
    rintro n s5 ⟨i, H5, I5, st5, n5, w5⟩
    rcases turn i n H5 w5 with ⟨stop, qq⟩ | ⟨go, Nx, hNx, step⟩
    · refine thnF (T.done (X.blk sC HC sc ce fp) rfl rfl rfl calm i [] s5 _ H5 (fun _ _ => False) I5 (stat I5 n5) st5 stop) fun r s6 ⟨hr, I6⟩ => ?_
      subst hr
      have IG : Inv X pins σ H5 s6 := IC.call' (ch := fp) I6.os I6.base I6.hok I6.bare fun b hb => ⟨(fC b hb).1.2.2.2.1, (fC b hb).1.2.1, (fC b hb).1.2.2.2.2.1, (fC b hb).1.2.2.2.2.2⟩
      have nC : H5 sC.heap.objs.size = none := by
        have z : H5 ce.locals = none := I6.free
        rwa [eL] at z
      obtain ⟨m, hn, _⟩ := I6.loc
      have hn : s6.heap.Ns ce.locals m := hn
      rw [eL] at hn
      obtain ⟨f0, f1, f2, f3, f4, f5⟩ := IC.fpOk (Nat.le_refl _) nC
      exact ⟨m, hn, fun h'' sb => ⟨.ref D, H5, IG.turned (t' := s6.toks) (fun b o hb e => (sb.2 b hb).trans e) f0 f1 f3 f4 f5, rfl, qq⟩⟩
    · refine thnF (T.item (X.blk sC HC sc ce fp) rfl rfl rfl calm i [] s5 _ H5 (fun _ _ => False) I5 (stat I5 n5) st5 go) fun r s6 ⟨u, hr, h6⟩ => ?_
      subst hr
      refine thnF h6 fun _ s7 ⟨x, H7, I7, r7, y7, st7, n7⟩ => ?_
      have I7' := I7.pinned (stat I7 n7) (T.obj _ _ st7)
      refine thnF (pg.run _ s7 _ H7 x u _ I7' r7 (step x H7 y7)) fun _ s8 ⟨σ8, H8, I8, hw8, q8⟩ => ?_
      have fin : ∀ {s' : Shared} {H' : Hp}, Inv (X.blk sC HC sc ce fp) ([] ++ pinsAt fp s7.heap) σ8 H' s' → Nx H' → ∃ m, m < n ∧ ∃ i H', Inv (X.blk sC HC sc ce fp) [] (wipe σ (own.map (·.2))) H' s' ∧ tn i s'.heap ∧ (∀ b ∈ fp, H' b = none) ∧ W i m H' := fun {s' H'} I' nx => by
        obtain ⟨m', hm, w'⟩ := hNx H' nx
        have pin' : ∀ b ∈ fp, ∀ o, s7.heap.get? b = some o → s'.heap.get? b = some o ∧ H' b = none := fun b hb o e =>
          let z := I'.pin (b, o) (List.mem_append_right _ (List.mem_append_right _ (mem_pinsAt hb e)))
          ⟨z.1, z.2.1⟩
        refine ⟨m', hm, i + 1, H', (I'.unpinned (pins := [])).weak (by rw [← hw8, wipe_length]) (fun j v e => by rw [← hw8] at e; exact (wipe_some e).1), T.keep _ _ _ st7 fun b hb o e => (pin' b hb o e).1, fun b hb => ?_, w'⟩
        obtain ⟨o, e, _⟩ := T.obj _ _ st7 b hb
        exact (pin' b hb o e).2
      refine wpAny_pure ?_
      show wpAny _ _ _ _ _ _
      refine thnF (pk.run _ s8 σ8 H8 _ I8 q8) fun z s10 ⟨yk, H10, I10, r10, q10⟩ => ?_
      refine thnF (pe.run _ s10 σ8 H10 _ I10 q10) fun z2 s11 ⟨yv, H11, I11, r11, kvs, k, b, ek, hb, hD11, hz11, nx⟩ => ?_
      subst ek
      cases r10
      exact dT_set (X := X.blk sC HC sc ce fp) hu I11 hD11 hz11 hb r11 fun s12 I12 => fin I12 nx
  exact codeAny_compStart_dict loop (T.self X.A 0 _ _ _ stE loop)
end
end TS2

set_option Elab.async false
set_option maxRecDepth 100000
set_option maxHeartbeats 4000000
set_option linter.all false
/-! xs.extend(t), t a tuple -/
namespace TS2
open PySem PySem.Spec PyProof.Rows L2
section
variable {X : Cx}
def rExtT (K : PySem.W.Frag) : V → List V → Hp → VK → Prop := fun x vs H Q => ∃ l b xs zs, x = .ref l ∧ vs = [.ref b] ∧ H l = some (.lst xs) ∧ SqT K H b zs ∧ xs.length + zs.length ≤ sizeLine ∧ Q .non (upd H l (.lst (xs ++ zs)))
theorem mt_extendT : MtM X "list.extend" (rExtT X.K) := by
  intro pins s σ H x vs v us Q I rx rv h
  obtain ⟨l, b, xs, zs, rfl, rfl, hH, hB, hz, q⟩ := h
  cases rx
  obtain ⟨u, rfl, ru⟩ := rv.one
  cases ru
  obtain ⟨z, its, n, r, hl, e⟩ := I.lstM hH
  obtain ⟨its2, r2, ⟨o2, e2, hc2, n2, hd2⟩, hl2⟩ := I.tuple hB
  have lz : its2.length = zs.length := r2.length.symm
  have lx : its.length = xs.length := r.length.symm
  have hlong : ¬ (!its.toArray.isEmpty && Builtin.List.listTooLong (its.toArray.size + its2.toArray.size)) = true := by
    rw [notLongL (by rw [List.size_toArray, List.size_toArray]; omega), Bool.and_false]
    exact Bool.false_ne_true
  refine wpAny_call_entry F.slot_list_extend ⟨_, e, rfl⟩ F.entry_list_extend ?_ (F.args_list_extend_2 _ _)
  show wpAny _ _ (Builtin.List.listExtendWith (.ref l) (.ref b) .none) _ _ _
  unfold Builtin.List.listExtendWith
  refine wpAny_bind (wpAny_typeOf ⟨o2, e2, hc2⟩ ?_)
  have h1 : (Builtin.List.listSameRef (.ref l) (.ref b) || Value.type "tuple" == Value.type "list" || Value.type "tuple" == Value.type "tuple") = true := by simp
  simp only [h1, if_true]
  refine wpAny_bind ?_
  unfold Builtin.List.listItems
  refine wpAny_bind (wpAny_seqItems e2 hd2 (wpAny_pure ?_))
  refine wpAny_bind ?_
  refine wpAny_bind (wpAny_seqItems e rfl (wpAny_pure ?_))
  rw [if_neg hlong]
  show wpAny _ _ (updateSeq l (· ++ its2.toArray) >>= fun _ => ret Value.none) _ _ s
  have e3 := Heap.get?_update_self (Obj.mapSeq (· ++ its2.toArray)) e rfl
  refine wpAny_bind (wpAny_updateSeq e rfl ?_ (hz := by rw [List.size_toArray]; omega) (_hz' := by rw [Array.size_append, List.size_toArray, List.size_toArray]; omega))
  refine wpAny_pure ?_
  refine ⟨_, rfl, .non, _, I.lset (its' := its ++ its2) hH e (by simp) (r.append r2) (by rw [List.length_append]; omega), rfl, q⟩
end
end TS2

set_option Elab.async false
set_option maxRecDepth 100000
set_option maxHeartbeats 4000000
set_option linter.all false
/-! len(set(t)), t a tuple of texts of any number -/
namespace TS2
open PySem PySem.Spec PyProof.Rows L2
/-- the texts of ws, each once -/
def uniq (ws : List Str) : List Str := ws.foldl put []
theorem uniq_snoc (ws : List Str) (k : Str) : uniq (ws ++ [k]) = put (uniq ws) k := by unfold uniq; rw [List.foldl_append]; rfl
theorem mem_put {l : List Str} {k x : Str} : x ∈ put l k ↔ x ∈ l ∨ x = k := by
  unfold put
  split
  · rename_i h
    exact ⟨.inl, fun z => z.elim id fun e => e ▸ h⟩
  · rw [List.mem_cons]
    exact Or.comm
theorem put_nodup {l : List Str} {k : Str} (h : l.Nodup) : (put l k).Nodup := by
  unfold put
  split
  · exact h
  · rename_i n
    exact List.nodup_cons.mpr ⟨n, h⟩
theorem foldl_put_mem {x : Str} : ∀ (ws l : List Str), x ∈ ws.foldl put l ↔ x ∈ l ∨ x ∈ ws
  | [], l => by simp
  | k :: ws, l => by
    rw [List.foldl_cons, foldl_put_mem ws, mem_put, List.mem_cons, or_assoc]
theorem mem_uniq {ws : List Str} {x : Str} : x ∈ uniq ws ↔ x ∈ ws := by
  unfold uniq
  rw [foldl_put_mem]
  simp
theorem foldl_put_nodup : ∀ (ws l : List Str), l.Nodup → (ws.foldl put l).Nodup
  | [], _, h => h
  | k :: ws, l, h => foldl_put_nodup ws _ (put_nodup h)
theorem uniq_nodup (ws : List Str) : (uniq ws).Nodup := foldl_put_nodup ws [] List.nodup_nil
theorem foldl_put_len : ∀ (ws l : List Str), (ws.foldl put l).length ≤ l.length + ws.length
  | [], _ => Nat.le_refl _
  | k :: ws, l => by
    have h := foldl_put_len ws (put l k)
    have := put_len l k
    rw [List.foldl_cons, List.length_cons]
    omega
theorem uniq_le (ws : List Str) : (uniq ws).length ≤ ws.length := by have := foldl_put_len ws []; simpa [uniq] using this
theorem foldl_put_of : ∀ (ws l : List Str), ws.Nodup → (∀ x ∈ ws, x ∉ l) → (ws.foldl put l).length = l.length + ws.length
  | [], _, _, _ => rfl
  | k :: ws, l, h, d => by
    obtain ⟨h1, h2⟩ := List.nodup_cons.mp h
    have e : put l k = k :: l := by unfold put; rw [if_neg (d k List.mem_cons_self)]
    rw [List.foldl_cons, e, foldl_put_of ws _ h2 fun x hx z => ?_]
    · simp; omega
    · rcases List.mem_cons.mp z with q | q
      · exact h1 (q ▸ hx)
      · exact d x (List.mem_cons_of_mem _ hx) q
theorem uniq_all {ws : List Str} (h : ws.Nodup) : (uniq ws).length = ws.length := by
  have := foldl_put_of ws [] h (by simp)
  simpa [uniq] using this
theorem foldl_put_nd : ∀ (ws l : List Str), (ws.foldl put l).length = l.length + ws.length → ws.Nodup ∧ ∀ x ∈ ws, x ∉ l
  | [], _, _ => ⟨List.nodup_nil, fun x h => by simp at h⟩
  | k :: ws, l, h => by
    have h1 := foldl_put_len ws (put l k)
    have h2 := put_len l k
    rw [List.foldl_cons, List.length_cons] at h
    have hk : k ∉ l := fun z => by
      have e : put l k = l := by unfold put; rw [if_pos z]
      rw [e] at h h1
      omega
    have e : put l k = k :: l := by unfold put; rw [if_neg hk]
    rw [e] at h
    obtain ⟨n1, n2⟩ := foldl_put_nd ws (k :: l) (by rw [h, List.length_cons]; omega)
    refine ⟨List.nodup_cons.mpr ⟨fun z => n2 k z List.mem_cons_self, n1⟩, fun x hx z => ?_⟩
    rcases List.mem_cons.mp hx with q | q
    · exact hk (q ▸ z)
    · exact n2 x q (List.mem_cons_of_mem _ z)
/-- as many as there are, exactly if none stands twice -/
theorem uniq_len {ws : List Str} : (uniq ws).length = ws.length ↔ ws.Nodup :=
  ⟨fun e => (foldl_put_nd ws [] (by unfold uniq at e; rw [e]; simp)).1, uniq_all⟩
section
variable {P : PySem.Program} {w : World} {A : Around} {R : Result → Shared → Prop} {I : Addr} {fp wr : List Addr} {G : Array GenState → Array GenState → Prop} {n : Nat} {Pv : Nat → Value → Prop} {St : Nat → Shared → Prop}
abbrev HoldsU (P : PySem.Program) (w : World) (h : Heap) (S : Addr) (ws : List Str) : Prop := h.SetOf (PySem.strKind P w) S (fun k => decide (k ∈ uniq ws)) (uniq ws).length
theorem holdsU_more {h : Heap} {S : Addr} {ws : List Str} {k : Str} (e : h.SetOf (PySem.strKind P w) S (fun j => decide (j ∈ uniq ws) || decide (j = k)) (if decide (k ∈ uniq ws) = true then (uniq ws).length else (uniq ws).length + 1)) :
    HoldsU P w h S (ws ++ [k]) := by
  refine SetOf_congr e (fun j => ?_) ?_
  · rw [uniq_snoc]
    by_cases a : j ∈ uniq ws <;> by_cases b : j = k <;> simp [mem_put, a, b]
  · rw [uniq_snoc]
    by_cases a : k ∈ uniq ws <;> simp [put, a]
theorem loopU (W : WalksS P w A.in1 I fp wr G n Pv St) (S : Addr) (hSf : S ∉ fp) (xs : List Str) (hsz : xs.length = n) (hn : n + 1 < scanBound) (hval : ∀ i v, Pv i v → ∃ x t, xs[i]? = some x ∧ v = .str x t) :
    ∀ (k i : Nat) (s : Shared), n - i = k → i ≤ n → St i s → HoldsU P w s.heap S (xs.take i) →
      (∀ s', Moved (S :: wr) G s s' → HoldsU P w s'.heap S xs → R (.ok (.ret .none)) s') → codeAny (model P w) A (.builtin "set.update.loop" ⟨[.ref S, .ref I], []⟩) R s := by
  have hSw : S ∉ wr := fun h => hSf (W.sub _ h)
  have hsub : ∀ b ∈ wr, b ∈ S :: wr := fun b hb => List.mem_cons_of_mem _ hb
  intro k
  induction k with
  | zero =>
    intro i s hk hi hst hS hR
    have hin : i = n := by omega
    subst hin
    rw [← hsz, List.take_length] at hS
    refine codeAny_builtin PyProof.Rows.F.entry_set_update_loop ?_
    rw [Around.under_plainId PyProof.Rows.F.plain_set_update_loop _]
    show wpAny _ A.in1 (pyNext (.ref I) >>= _) _ _ s
    refine wpAny_bind (W.done s _ _ hst fun s' hm => ?_)
    show wpAny _ A.in1 (ret Value.none) _ _ s'
    obtain ⟨o, es, ep, t, ho, more⟩ := hS
    exact wpAny_pure (hR s' (hm.mono hsub) ⟨o, es, ep, t, hm.heap S _ hSw ho, more⟩)
  | succ k ih =>
    intro i s hk hi hst hS hR
    have hlt : i < n := by omega
    refine codeAny_builtin PyProof.Rows.F.entry_set_update_loop ?_
    rw [Around.under_plainId PyProof.Rows.F.plain_set_update_loop _]
    show wpAny _ A.in1 (pyNext (.ref I) >>= _) _ _ s
    refine wpAny_bind (W.item i s _ _ hlt hst fun v s' hP hst' hm => ?_)
    obtain ⟨x, t, hx, rfl⟩ := hval i v hP
    have hS' : HoldsU P w s'.heap S (xs.take i) := by
      obtain ⟨o, es, ep, tb, ho, more⟩ := hS
      exact ⟨o, es, ep, tb, hm.heap S _ hSw ho, more⟩
    show wpAny _ A.in1 (holding [Value.str x t] (setAdd S (.str x t)) >>= _) _ _ s'
    refine wpAny_bind (wpAny_holding ?_)
    unfold setAdd
    refine wpAny_holding ?_
    refine wpAny_bind ((PySem.strKind P w).pyHash (k := x) (strKind_is _ _ _ _) ?_)
    have room : (uniq (xs.take i)).length + 1 < scanBound := by
      have h1 := uniq_le (xs.take i)
      rw [List.length_take] at h1
      omega
    refine wpAny_setAddHashed_of (knd := PySem.strKind P w) (s := { s' with toks := s'.toks + 1 }) (strKind_is _ _ _ _) rfl hS' room fun h' hsb hS2 => ?_
    have hSi : HoldsU P w h' S (xs.take (i + 1)) := by
      rw [List.take_succ, hx]
      exact holdsU_more hS2
    refine wpAny_pure ⟨plainId_quiet PyProof.Rows.F.plain_set_update_loop _, ih (i + 1) _ (by omega) hlt (W.frame _ s' _ _ hst' (Nat.le_succ _) fun b hb o e => ?_) hSi fun s2 hm2 hS3 => ?_⟩
    · exact (hsb.2 b fun z => hSf (z ▸ hb)).trans e
    · refine hR s2 (Moved.trans W.gtrans ((hm.mono hsub).then_heap (Nat.le_succ _) fun b o hb e => ?_) hm2) hS3
      exact (hsb.2 b fun z => hb (z ▸ List.mem_cons_self)).trans e
end
section
variable {P : PySem.Program} {w : World} {A : Around} {E : Value → Shared → Prop} {s : Shared}
set_option maxHeartbeats 6400000 in
theorem set_of_tuple {l : Addr} {its : Array Value} {xs : List Str} {Q : Value → Shared → Prop} (hh : A.handled = none) (hl : s.heap.IsTuple l its) (hi : StrsAre its.toList xs) (hb : xs.length + 1 < scanBound)
    (h : ∀ (h' : Heap) (tk : Nat), HoldsU P w h' s.heap.objs.size xs → (∀ b o, b < s.heap.objs.size → s.heap.get? b = some o → h'.get? b = some o) → Q (.ref s.heap.objs.size) { s with heap := h', toks := tk }) :
    wpAny (model P w) A (call (.type "set") [.ref l]) Q E s := by
  obtain ⟨c, tl, hmro⟩ := PySem.F.called_set.mro
  have hmade := PySem.F.called_set.made
  have hsub := PySem.F.called_set.sub
  refine wpAny_call (codeAny_of_tree ?_)
  show wpAny _ _ (callAny (.type "set") _) _ _ _
  refine wpAny_pure ⟨Code.quiet_builtin _ (by decide +kernel), codeAny_builtin PySem.F.entry_type_call ?_⟩
  rw [Around.under_plain (weight_type_call_type "set" [.ref l] []) rfl]
  have h1 := PySem.F.called_set.notType
  have h2 := PySem.F.called_set.canCreate
  have hct := PySem.F.typeCall_set_1 (.ref l)
  repeat (any_goals (first | assumption | wp_step))
  refine codeAny_mono (code_set_new_1 (.ref l) (E := E) (Q₁ := fun obj s1 => ∃ led : Bool, obj = .ref s.heap.objs.size ∧ s1 = { s with heap := s.heap.push { cls := .type "set", dict := none, data := .set #[] 0 (.fresh 0 0 led) } }) fun led => ⟨led, rfl, rfl⟩) fun r s1 hr => ?_
  cases r with
  | error e => exact hr
  | ok fl =>
    cases fl with
    | next => exact hr.elim
    | brk => exact hr.elim
    | cont => exact hr.elim
    | ret obj =>
      obtain ⟨led, rfl, rfl⟩ := hr
      have hS : (s.heap.push { cls := .type "set", dict := none, data := .set #[] 0 (.fresh 0 0 led) }).get? s.heap.objs.size = some { cls := .type "set", dict := none, data := .set #[] 0 (.fresh 0 0 led) } := Heap.get?_push_size _ rfl
      have hT : Shared.TypeIs { s with heap := s.heap.push { cls := .type "set", dict := none, data := .set #[] 0 (.fresh 0 0 led) } } (.ref s.heap.objs.size) "set" := ⟨_, hS, rfl⟩
      have hli := PySem.F.called_set.init.lookup
      have hbi := PySem.F.called_set.init.bind (.ref s.heap.objs.size)
      repeat (any_goals (first | assumption | wp_step))
      refine codeAny_mono (codeAny_call_builtin (R := wants (fun r s2 => r = .none ∧ ∃ h' tk, s2 = { s with heap := h', toks := tk } ∧ HoldsU P w h' s.heap.objs.size xs ∧
          (∀ b o, b < s.heap.objs.size → s.heap.get? b = some o → h'.get? b = some o)) E) PySem.F.called_set.init.plain PySem.F.entry_set_init (check_set_init_1 hT ?_)) fun r2 s2 hr2 => ?_
      · obtain ⟨⟨ocls, odict, odata, oslots⟩, hol, hcl, nl, hdl⟩ := hl
        simp only at hcl hdl
        subst hcl; subst hdl
        have hol' : (s.heap.push { cls := .type "set", dict := none, data := .set #[] 0 (.fresh 0 0 led) }).get? l = some { cls := .type "tuple", dict := odict, data := .seq its nl, slots := oslots } := Heap.get?_push_of_some _ hol
        have hsls := PySem.F.sub_tuple_set
        have hslf := PySem.F.sub_tuple_frozenset
        have hne : (Value.type "tuple" == Value.type "dict") = false := by decide
        have hl1 : ({ s with heap := s.heap.push { cls := .type "set", dict := none, data := .set #[] 0 (.fresh 0 0 led) } } : Shared).heap.IsTuple l its := ⟨_, hol', rfl, nl, rfl⟩
        unfold Builtin.«set.__init__» noKeywords Builtin.Frozenset.updateFrom
        generalize hPI : pyIter = PI
        wp_walk
        subst hPI
        refine wpAny_pyIter_tuple hl1 ?_
        refine wpAny_bind (wpAny_runValue ?_)
        have hlS : l < s.heap.objs.size := Heap.lt_size hol
        have hh3 : A.in1.in1.in1.handled = none := by simp [hh]
        have hz : (s.heap.push { cls := .type "set", dict := none, data := .set #[] 0 (.fresh 0 0 led) }).objs.size = s.heap.objs.size + 1 := Heap.size_push ..
        have hneI : l ≠ (s.heap.push { cls := .type "set", dict := none, data := .set #[] 0 (.fresh 0 0 led) }).objs.size := by rw [hz]; exact Nat.ne_of_lt (Nat.lt_succ_of_lt hlS)
        have hSf : s.heap.objs.size ∉ [(s.heap.push { cls := .type "set", dict := none, data := .set #[] 0 (.fresh 0 0 led) }).objs.size, l] := by
          rw [hz]
          simp only [List.mem_cons, List.not_mem_nil, or_false, not_or]
          exact ⟨Nat.ne_of_lt (Nat.lt_succ_self _), Nat.ne_of_gt hlS⟩
        have hsz : xs.length = its.size := by rw [← StrsAre.len_eq hi, Array.length_toList]
        have hval : ∀ (i : Nat) (v : Value), its[i]? = some v → ∃ x t, xs[i]? = some x ∧ v = .str x t := fun i v hv => by
          have hv' : its.toList[i]? = some v := by rw [Array.getElem?_toList]; exact hv
          have lt : i < xs.length := by rw [hsz]; exact (Array.getElem?_eq_some_iff.mp hv).1
          obtain ⟨t, e⟩ := SS.strs_at hi i v hv'
          refine ⟨xs[i], t, by simp [lt], ?_⟩
          rw [e]
          simp [lt]
        refine loopU ((Walks.tuple hh3 _ l hneI its).toS) s.heap.objs.size hSf xs hsz (by rw [← hsz]; exact hb) hval (its.size - 0) 0 _ (by omega) (Nat.zero_le _)
          ⟨⟨_, Heap.get?_push_size _ rfl, rfl, rfl⟩, (hl1.push _)⟩ ?hS0 ?hR
        case hS0 =>
          have hget : ((s.heap.push { cls := .type "set", dict := none, data := .set #[] 0 (.fresh 0 0 led) }).push { cls := .type "tuple_iterator", data := .fields #[.ref l, .int 0 0] }).get? s.heap.objs.size = some { cls := .type "set", dict := none, data := .set #[] 0 (.fresh 0 0 led) } := Heap.get?_push_of_some _ hS
          exact SetOf_congr ((setObjOf_fresh (knd := PySem.strKind P w) led).setOf hget (by unfold scanBound; omega)) (fun k => by simp [uniq]) rfl
        case hR =>
          intro s' hm hS'
          obtain ⟨h', g', d', tk', os'⟩ := s'
          have eg : g' = s.gens := hm.gens
          have ed : d' = s.drawn := hm.drawn
          have eo : os' = s.os := hm.os
          subst eg; subst ed; subst eo
          show wpAny _ _ _ _ _ _
          refine wpAny_pure ?_
          show wpAny _ _ (ret Value.none) _ _ _
          refine wpAny_pure ⟨rfl, h', tk', rfl, hS', fun b o hb e => ?_⟩
          exact hm.heap b o (by simp only [List.mem_cons, List.not_mem_nil, or_false, not_or]; exact ⟨Nat.ne_of_lt hb, by rw [hz]; exact Nat.ne_of_lt (Nat.lt_succ_of_lt hb)⟩) (Heap.get?_push_of_some _ (Heap.get?_push_of_some _ e))
      · cases r2 with
        | error e => exact hr2
        | ok fl2 =>
          cases fl2 with
          | next => exact hr2.elim
          | brk => exact hr2.elim
          | cont => exact hr2.elim
          | ret r =>
            obtain ⟨rfl, h', tk, rfl, hS', hk'⟩ := hr2
            repeat (any_goals (first | assumption | wp_step))
            exact h _ _ hS' hk'
end
section
variable {X : Cx}
def tLenU (K : PySem.W.Frag) (ta : TE) : TE := fun σ H Q => ta σ H fun x H1 => ∃ l, ∃ xs : List Str, x = .ref l ∧ SqT K H1 l (xs.map V.str) ∧ xs.length + 1 < scanBound ∧ Q (.int (uniq xs).length) H1
theorem pe_lenU {a : Expr} {ta : TE} {p p2 q pos : Pos} (hc : X.calm = true) (hg : Gl X "len") (hm : X.mg "len" = none) (hg2 : Gl X "set") (hm2 : X.mg "set" = none) (ha : PE X a ta)
    (na : starEach [a] X.env = (false, eval a X.env) :: starEach [] X.env := by rfl) : PE X (.Call (.Name "len" p) [.Call (.Name "set" p2) [a] [] q] [] pos) (tLenU X.K ta) := by
  refine ⟨fun pins s σ H Q I h => ?_⟩
  refine Call_ (ld_blt I hg hm boot_len ?_)
  refine callWith_builtin1 (args_cons ?_ rfl) rfl rfl
  refine Call_ (ld_blt I hg2 hm2 boot_set ?_)
  refine callWith_type1 (args_cons (thn (ha.run pins s σ H _ I h) fun v s1 ⟨x, H1, I1, r1, q1⟩ => args_nil ?_) na) na rfl
  obtain ⟨l, xs, rfl, hq, h1, q1⟩ := q1
  cases r1
  obtain ⟨its, r, pl, hz⟩ := I1.tuple hq
  refine set_of_tuple (I1.ok.hd hc) pl (by simpa using strsAre_of r) h1 fun h' tk hS hk => ?_
  obtain ⟨o, es, ep, t, ho, hex, hd, _, _, _, hf, hn⟩ := hS
  have I2 : Inv X pins σ H1 { s1 with heap := h', toks := tk } := I1.kept fun b o e => hk b o (Heap.lt_size e) e
  have := uniq_le xs
  have sb : scanBound = 4096 := rfl
  refine args_nil ?_
  refine call_len_set ho hex hd hf (by rw [hn]; omega) ⟨.int (uniq xs).length, H1, I2.tok _, ⟨_, by rw [hn]⟩, q1⟩
end
end TS2

set_option Elab.async false
set_option maxRecDepth 100000
set_option maxHeartbeats 4000000
set_option linter.all false
namespace L2
open PySem PySem.Spec PyProof.Rows
section
variable {X : Cx} {CX : CXT} {k : Nat} {C : Addr} {ps : List Str} {sp : Sp} {E : XK} {W : WX} {x : Str} {e : Expr} {es : List Expr} {t : TA} {p pos : Pos}
theorem pe_fnS (c : Def X.prog X.w X.K X.mg X.base (L2.CX X.prog X.w) k x ps sp) (hr : Room k X.A) (hg : Gl X x) (tk : Takes X W) (ha : PA X (e :: es) t)
    (hdb : (x == ("__debug__" : Str)) = false := by decide) (he : starEach (e :: es) X.env = (false, eval e X.env) :: starEach es X.env := by rfl)
    (hpl : (backTo pos (starEach es X.env)).any (·.1) = false := by rfl) : PE X (.Call (.Name x p) (e :: es) [] pos) (tCallS sp (WE W) t) := by
  obtain ⟨f, fd, hm, hk, hb, F⟩ := c.ex
  exact pe_callS F hr hg hm hk hb (fun σ => passAt tk σ) ha hdb he hpl
end
end L2
namespace OR
open PySem PySem.Spec PyProof.Rows L2 TS2
/-! ### lists, pair by pair -/
inductive All2 {α β : Type} (R : α → β → Prop) : List α → List β → Prop where
  | nil : All2 R [] []
  | cons {x : α} {y : β} {xs : List α} {ys : List β} (h : R x y) (t : All2 R xs ys) : All2 R (x :: xs) (y :: ys)
namespace All2
variable {α β : Type} {R R' : α → β → Prop}
theorem len {xs : List α} {ys : List β} (h : All2 R xs ys) : xs.length = ys.length := by
  induction h with
  | nil => rfl
  | cons _ _ ih => simp [ih]
theorem at_ {xs : List α} {ys : List β} (h : All2 R xs ys) : ∀ {i : Nat} {x : α} {y : β}, xs[i]? = some x → ys[i]? = some y → R x y := by
  induction h with
  | nil => intro i x y hx; simp at hx
  | cons h t ih =>
    intro i x y hx hy
    cases i with
    | zero =>
      cases Option.some.inj hx
      cases Option.some.inj hy
      exact h
    | succ i => exact ih hx hy
theorem imp {xs : List α} {ys : List β} (h : All2 R xs ys) (f : ∀ x y, x ∈ xs → R x y → R' x y) : All2 R' xs ys := by
  induction h with
  | nil => exact .nil
  | cons h t ih => exact .cons (f _ _ List.mem_cons_self h) (ih fun x y hx => f x y (List.mem_cons_of_mem _ hx))
theorem app {xs xs' : List α} {ys ys' : List β} (h : All2 R xs ys) (h' : All2 R xs' ys') : All2 R (xs ++ xs') (ys ++ ys') := by
  induction h with
  | nil => exact h'
  | cons h _ ih => exact .cons h ih
theorem one {x : α} {y : β} (h : R x y) : All2 R [x] [y] := .cons h .nil
theorem take {xs : List α} {ys : List β} (h : All2 R xs ys) : ∀ n, All2 R (xs.take n) (ys.take n) := by
  induction h with
  | nil => intro n; simp; exact .nil
  | cons h _ ih =>
    intro n
    cases n with
    | zero => exact .nil
    | succ n => exact .cons h (ih n)
theorem other {xs : List α} {ys : List β} (h : All2 R xs ys) {i : Nat} {y : β} (hy : ys[i]? = some y) : ∃ x, xs[i]? = some x ∧ R x y := by
  have lt : i < ys.length := (List.getElem?_eq_some_iff.mp hy).1
  have e : xs[i]? = some (xs[i]'(by rw [h.len]; exact lt)) := List.getElem?_eq_getElem _
  exact ⟨_, e, h.at_ e hy⟩
theorem right {xs : List α} {ys : List β} (h : All2 R xs ys) {i : Nat} {x : α} (hx : xs[i]? = some x) : ∃ y, ys[i]? = some y ∧ R x y := by
  have lt : i < xs.length := (List.getElem?_eq_some_iff.mp hx).1
  have e : ys[i]? = some (ys[i]'(by rw [← h.len]; exact lt)) := List.getElem?_eq_getElem _
  exact ⟨_, e, h.at_ hx e⟩
end All2
theorem take_more {α : Type} {l : List α} {i : Nat} {x : α} (h : l[i]? = some x) : l.take (i + 1) = l.take i ++ [x] := by
  rw [List.take_succ, h]
  rfl
/-! ### rows as trees, d deep at most -/
inductive Pt (R : Type) where
  | word (s : Str) | words (l : List Str) | rows (l : List R) | sides (l : List (List R))
def Row : Nat → Type
  | 0 => Empty
  | d + 1 => Str × List (Pt (Row d))
def ftab : List (Str × List Str) := [("ask", ["ask", "label"]), ("timer", ["label"]), ("await", ["label", "slot"]), ("first", ["labels", "slot"]), ("drop", ["label"]), ("take", ["signal", "slot"]), ("note", ["slot", "words"]), ("put", ["slot", "word"]), ("if", ["source", "word", "rows", "rows"]), ("loop", ["rows"]), ("leave", []), ("part", ["rows"]), ("both", ["sides"]), ("gate", ["gate", "rows", "rows"]), ("past", ["gate", "rows"]), ("edit", ["edit", "rows", "rows"]), ("end", ["source"]), ("anew", ["source"])]
section
variable (K : PySem.W.Frag) (H : Hp)
def LstAt {R : Type} (RA : R → V → Prop) (l : List R) (v : V) : Prop := ∃ a xs, v = .ref a ∧ H a = some (.lst xs) ∧ All2 RA l xs
def PtAt {R : Type} (RA : R → V → Prop) : Pt R → V → Prop
  | .word s, v => v = .str s
  | .words l, v => ∃ a, v = .ref a ∧ SqT K H a (l.map V.str)
  | .rows l, v => LstAt H RA l v
  | .sides ls, v => ∃ a vs, v = .ref a ∧ SqT K H a vs ∧ All2 (LstAt H RA) ls vs
def RowAt : (d : Nat) → Row d → V → Prop
  | 0, r, _ => nomatch r
  | d + 1, r, v => ∃ a vs, v = .ref a ∧ SqT K H a (.str r.1 :: vs) ∧ All2 (PtAt K H (RowAt d)) r.2 vs
end
/-- the lists of rows in a row's parts -/
def kidsP {R : Type} : Pt R → List (List R)
  | .rows l => [l]
  | .sides ls => ls
  | _ => []
def kids {R : Type} (ps : List (Pt R)) : List (List R) := (ps.map kidsP).flatten
/-- the kinds of the parts are those of the forms -/
def kindOk {R : Type} (f : Str) : Pt R → Bool
  | .word _ => f ≠ "rows" && f ≠ "sides" && f ≠ "labels" && f ≠ "words"
  | .words _ => f == "labels" || f == "words"
  | .rows _ => f == "rows"
  | .sides _ => f == "sides"
def KindsOk {R : Type} (fs : List Str) (ps : List (Pt R)) : Prop := All2 (fun f p => kindOk f p = true) fs ps
/-- the plain words of the parts whose forms are among the named ones -/
def wordsP {R : Type} : Pt R → List Str
  | .word s => [s]
  | .words l => l
  | _ => []
def named {R : Type} (which : List Str) (fs : List Str) (ps : List (Pt R)) : List Str := ((fs.zip ps).map fun x => if x.1 ∈ which then wordsP x.2 else []).flatten
/-- all but the objects at C stands -/
def Kp (C : Addr → Prop) (H H' : Hp) : Prop := ∀ b o, H b = some o → ¬ C b → H' b = some o
def Sep (H0 : Hp) (C : Addr → Prop) : Prop := ∀ b, C b → H0 b = none
theorem Kp.refl {C : Addr → Prop} (H : Hp) : Kp C H H := fun _ _ h _ => h
theorem Kp.trans {C : Addr → Prop} {H H1 H2 : Hp} (a : Kp C H H1) (b : Kp C H1 H2) : Kp C H H2 := fun c o h n => b c o (a c o h n) n
theorem Kp.of {C : Addr → Prop} {H H' : Hp} (s : Same H H') : Kp C H H' := fun b o h _ => s b o h
theorem Kp.base {C : Addr → Prop} {H0 H H' : Hp} (s : Same H0 H) (k : Kp C H H') (n : Sep H0 C) : Same H0 H' := fun b o h => k b o (s b o h) fun c => by rw [n b c] at h; cases h
theorem Kp.put {C : Addr → Prop} {H : Hp} {a : Addr} {o : HO} (h : C a) : Kp C H (upd H a o) := fun b u e n => by rw [upd_ne (fun z : b = a => n (z.symm ▸ h))]; exact e
theorem Kp.mono {C C' : Addr → Prop} {H H' : Hp} (k : Kp C H H') (h : ∀ b, C b → C' b) : Kp C' H H' := fun b o e n => k b o e fun c => n (h b c)
end OR

set_option Elab.async false
set_option maxRecDepth 100000
set_option maxHeartbeats 4000000
set_option linter.all false
namespace OR
open PySem PySem.Spec PyProof.Rows L2
def top (i : Nat) : Stmt := PySem.Challenge.pw_openruns_k24_text_arguments.main.body.getD i (.Pass ⟨0, 0, 0, 0⟩)
abbrev FnP (K : PySem.W.Frag) (x qual : Str) (st : Stmt) (f : Addr) (fd : FuncData) : Prop := FunD K x qual (defArgs st) (defBody st) (defScope st) [] [] f fd
abbrev s_lists_of : Stmt := top 13
abbrev n_lists_of : List Str := ["row", "lists", "form", "part"]
abbrev p_lists_of : List Str := ["row"]
theorem sc_lists_of : FnScope n_lists_of p_lists_of (defScope s_lists_of) := ⟨rfl, rfl, rfl, by decide +kernel, rfl, by decide +kernel, by decide +kernel⟩
abbrev s_with_lists : Stmt := top 14
abbrev n_with_lists : List Str := ["row", "lists"]
abbrev p_with_lists : List Str := ["row", "lists"]
theorem sc_with_lists : FnScope n_with_lists p_with_lists (defScope s_with_lists) := ⟨rfl, rfl, rfl, by decide +kernel, rfl, by decide +kernel, by decide +kernel⟩
abbrev s_words_named : Stmt := top 15
abbrev n_words_named : List Str := ["row", "forms", "named", "form", "part"]
abbrev p_words_named : List Str := ["row", "forms"]
theorem sc_words_named : FnScope n_words_named p_words_named (defScope s_words_named) := ⟨rfl, rfl, rfl, by decide +kernel, rfl, by decide +kernel, by decide +kernel⟩
abbrev s_copied : Stmt := top 16
abbrev n_copied : List Str := ["rows", "row", "inner"]
abbrev p_copied : List Str := ["rows"]
theorem sc_copied : FnScope n_copied p_copied (defScope s_copied) := ⟨rfl, rfl, rfl, by decide +kernel, rfl, by decide +kernel, by decide +kernel⟩
abbrev s_is_word : Stmt := top 19
abbrev n_is_word : List Str := ["value", "letter"]
abbrev p_is_word : List Str := ["value"]
theorem sc_is_word : FnScope n_is_word p_is_word (defScope s_is_word) := ⟨rfl, rfl, rfl, by decide +kernel, rfl, by decide +kernel, by decide +kernel⟩
abbrev s_is_integer : Stmt := top 20
abbrev n_is_integer : List Str := ["value"]
abbrev p_is_integer : List Str := ["value"]
theorem sc_is_integer : FnScope n_is_integer p_is_integer (defScope s_is_integer) := ⟨rfl, rfl, rfl, by decide +kernel, rfl, by decide +kernel, by decide +kernel⟩
abbrev s_are_words : Stmt := top 21
abbrev n_are_words : List Str := ["value", "most", "word"]
abbrev p_are_words : List Str := ["value", "most"]
theorem sc_are_words : FnScope n_are_words p_are_words (defScope s_are_words) := ⟨rfl, rfl, rfl, by decide +kernel, rfl, by decide +kernel, by decide +kernel⟩
abbrev s_RowCheck___init__ : Stmt := inClass (top 25) 0
abbrev n_RowCheck___init__ : List Str := ["self", "ask_table", "signal_table", "with_edits"]
abbrev p_RowCheck___init__ : List Str := ["self", "ask_table", "signal_table", "with_edits"]
theorem sc_RowCheck___init__ : FnScope n_RowCheck___init__ p_RowCheck___init__ (defScope s_RowCheck___init__) := ⟨rfl, rfl, rfl, by decide +kernel, rfl, by decide +kernel, by decide +kernel⟩
abbrev s_RowCheck_check_rows : Stmt := inClass (top 25) 1
abbrev n_RowCheck_check_rows : List Str := ["self", "rows"]
abbrev p_RowCheck_check_rows : List Str := ["self", "rows"]
theorem sc_RowCheck_check_rows : FnScope n_RowCheck_check_rows p_RowCheck_check_rows (defScope s_RowCheck_check_rows) := ⟨rfl, rfl, rfl, by decide +kernel, rfl, by decide +kernel, by decide +kernel⟩
abbrev s_RowCheck_check_list : Stmt := inClass (top 25) 2
abbrev n_RowCheck_check_list : List Str := ["self", "rows", "prefix", "in_loop", "number", "row", "path", "inner_in_loop", "place", "inner"]
abbrev p_RowCheck_check_list : List Str := ["self", "rows", "prefix", "in_loop"]
theorem sc_RowCheck_check_list : FnScope n_RowCheck_check_list p_RowCheck_check_list (defScope s_RowCheck_check_list) := ⟨rfl, rfl, rfl, by decide +kernel, rfl, by decide +kernel, by decide +kernel⟩
abbrev s_RowCheck_has_form : Stmt := inClass (top 25) 3
abbrev n_RowCheck_has_form : List Str := ["self", "row", "forms", "form", "part"]
abbrev p_RowCheck_has_form : List Str := ["self", "row"]
theorem sc_RowCheck_has_form : FnScope n_RowCheck_has_form p_RowCheck_has_form (defScope s_RowCheck_has_form) := ⟨rfl, rfl, rfl, by decide +kernel, rfl, by decide +kernel, by decide +kernel⟩
abbrev s_RowCheck_fits : Stmt := inClass (top 25) 4
abbrev n_RowCheck_fits : List Str := ["self", "form", "part"]
abbrev p_RowCheck_fits : List Str := ["self", "form", "part"]
theorem sc_RowCheck_fits : FnScope n_RowCheck_fits p_RowCheck_fits (defScope s_RowCheck_fits) := ⟨rfl, rfl, rfl, by decide +kernel, rfl, by decide +kernel, by decide +kernel⟩
abbrev s_RowCheck_is_new : Stmt := inClass (top 25) 5
abbrev n_RowCheck_is_new : List Str := ["self", "row", "forms", "is_free"]
abbrev p_RowCheck_is_new : List Str := ["self", "row"]
theorem sc_RowCheck_is_new : FnScope n_RowCheck_is_new p_RowCheck_is_new (defScope s_RowCheck_is_new) := ⟨rfl, rfl, rfl, by decide +kernel, rfl, by decide +kernel, by decide +kernel⟩
abbrev s_are_sides : Stmt := top 26
abbrev n_are_sides : List Str := ["part", "side"]
abbrev p_are_sides : List Str := ["part"]
theorem sc_are_sides : FnScope n_are_sides p_are_sides (defScope s_are_sides) := ⟨rfl, rfl, rfl, by decide +kernel, rfl, by decide +kernel, by decide +kernel⟩
abbrev s_may_stand : Stmt := top 27
abbrev n_may_stand : List Str := ["row", "path", "in_loop", "depth"]
abbrev p_may_stand : List Str := ["row", "path", "in_loop"]
theorem sc_may_stand : FnScope n_may_stand p_may_stand (defScope s_may_stand) := ⟨rfl, rfl, rfl, by decide +kernel, rfl, by decide +kernel, by decide +kernel⟩
abbrev s_Plan___init__ : Stmt := inClass (top 31) 0
abbrev n_Plan___init__ : List Str := ["self", "rows", "number", "path"]
abbrev p_Plan___init__ : List Str := ["self", "rows"]
theorem sc_Plan___init__ : FnScope n_Plan___init__ p_Plan___init__ (defScope s_Plan___init__) := ⟨rfl, rfl, rfl, by decide +kernel, rfl, by decide +kernel, by decide +kernel⟩
abbrev s_Plan_lay_list : Stmt := inClass (top 31) 1
abbrev n_Plan_lay_list : List Str := ["self", "rows", "prefix", "end", "exit_place", "number", "row", "behind"]
abbrev p_Plan_lay_list : List Str := ["self", "rows", "prefix", "end", "exit_place"]
theorem sc_Plan_lay_list : FnScope n_Plan_lay_list p_Plan_lay_list (defScope s_Plan_lay_list) := ⟨rfl, rfl, rfl, by decide +kernel, rfl, by decide +kernel, by decide +kernel⟩
abbrev s_Plan_lay_row : Stmt := inClass (top 31) 2
abbrev n_Plan_lay_row : List Str := ["self", "row", "path", "behind", "exit_place", "here", "place", "inner", "end", "first_place"]
abbrev p_Plan_lay_row : List Str := ["self", "row", "path", "behind", "exit_place"]
theorem sc_Plan_lay_row : FnScope n_Plan_lay_row p_Plan_lay_row (defScope s_Plan_lay_row) := ⟨rfl, rfl, rfl, by decide +kernel, rfl, by decide +kernel, by decide +kernel⟩
abbrev s_size_of : Stmt := top 32
abbrev n_size_of : List Str := ["row", "rows", "inner"]
abbrev p_size_of : List Str := ["row"]
theorem sc_size_of : FnScope n_size_of p_size_of (defScope s_size_of) := ⟨rfl, rfl, rfl, by decide +kernel, rfl, by decide +kernel, by decide +kernel⟩
abbrev s_end_within : Stmt := top 33
abbrev n_end_within : List Str := ["row", "here", "behind"]
abbrev p_end_within : List Str := ["row", "here", "behind"]
theorem sc_end_within : FnScope n_end_within p_end_within (defScope s_end_within) := ⟨rfl, rfl, rfl, by decide +kernel, rfl, by decide +kernel, by decide +kernel⟩
abbrev s_Draft___init__ : Stmt := inClass (top 45) 0
abbrev n_Draft___init__ : List Str := ["self", "rows", "asks", "signals", "inputs", "with_edits"]
abbrev p_Draft___init__ : List Str := ["self", "rows", "asks", "signals", "inputs", "with_edits"]
theorem sc_Draft___init__ : FnScope n_Draft___init__ p_Draft___init__ (defScope s_Draft___init__) := ⟨rfl, rfl, rfl, by decide +kernel, rfl, by decide +kernel, by decide +kernel⟩
abbrev s_checked_table : Stmt := top 46
abbrev n_checked_table : List Str := ["value", "part", "most", "name", "entry"]
abbrev p_checked_table : List Str := ["value", "part", "most"]
theorem sc_checked_table : FnScope n_checked_table p_checked_table (defScope s_checked_table) := ⟨rfl, rfl, rfl, by decide +kernel, rfl, by decide +kernel, by decide +kernel⟩
abbrev s_is_entry : Stmt := top 47
abbrev n_is_entry : List Str := ["entry", "part", "room", "words"]
abbrev p_is_entry : List Str := ["entry", "part"]
theorem sc_is_entry : FnScope n_is_entry p_is_entry (defScope s_is_entry) := ⟨rfl, rfl, rfl, by decide +kernel, rfl, by decide +kernel, by decide +kernel⟩
abbrev s_named_in : Stmt := top 48
abbrev n_named_in : List Str := ["flat", "labels", "slots", "gates", "row", "word", "slot"]
abbrev p_named_in : List Str := ["flat"]
theorem sc_named_in : FnScope n_named_in p_named_in (defScope s_named_in) := ⟨rfl, rfl, rfl, by decide +kernel, rfl, by decide +kernel, by decide +kernel⟩
abbrev s_check_sizes : Stmt := top 49
abbrev n_check_sizes : List Str := ["plan", "names"]
abbrev p_check_sizes : List Str := ["plan", "names"]
theorem sc_check_sizes : FnScope n_check_sizes p_check_sizes (defScope s_check_sizes) := ⟨rfl, rfl, rfl, by decide +kernel, rfl, by decide +kernel, by decide +kernel⟩
abbrev s_Program___init__ : Stmt := inClass (top 51) 0
abbrev n_Program___init__ : List Str := ["self", "rows", "asks", "signals", "inputs"]
abbrev p_Program___init__ : List Str := ["self", "rows", "asks", "signals", "inputs"]
theorem sc_Program___init__ : FnScope n_Program___init__ p_Program___init__ (defScope s_Program___init__) := ⟨rfl, rfl, rfl, by decide +kernel, rfl, by decide +kernel, by decide +kernel⟩
abbrev s_gone_over : Stmt := top 58
abbrev n_gone_over : List Str := ["tokens", "running", "started", "at_end", "at", "token"]
abbrev p_gone_over : List Str := ["tokens"]
theorem sc_gone_over : FnScope n_gone_over p_gone_over (defScope s_gone_over) := ⟨rfl, rfl, rfl, by decide +kernel, rfl, by decide +kernel, by decide +kernel⟩
abbrev s_turns_in : Stmt := top 59
abbrev n_turns_in : List Str := ["tokens", "starts", "ends", "at", "token", "start", "end"]
abbrev p_turns_in : List Str := ["tokens"]
theorem sc_turns_in : FnScope n_turns_in p_turns_in (defScope s_turns_in) := ⟨rfl, rfl, rfl, by decide +kernel, rfl, by decide +kernel, by decide +kernel⟩
abbrev s_cut : Stmt := top 64
abbrev n_cut : List Str := ["history", "flaw"]
abbrev p_cut : List Str := ["history"]
theorem sc_cut : FnScope n_cut p_cut (defScope s_cut) := ⟨rfl, rfl, rfl, by decide +kernel, rfl, by decide +kernel, by decide +kernel⟩
abbrev s_program_text : Stmt := top 73
abbrev n_program_text : List Str := ["program", "asks", "signals", "lines", "name", "room", "words"]
abbrev p_program_text : List Str := ["program"]
theorem sc_program_text : FnScope n_program_text p_program_text (defScope s_program_text) := ⟨rfl, rfl, rfl, by decide +kernel, rfl, by decide +kernel, by decide +kernel⟩
abbrev s_lines_of : Stmt := top 74
abbrev n_lines_of : List Str := ["rows", "level", "lines", "row"]
abbrev p_lines_of : List Str := ["rows", "level"]
theorem sc_lines_of : FnScope n_lines_of p_lines_of (defScope s_lines_of) := ⟨rfl, rfl, rfl, by decide +kernel, rfl, by decide +kernel, by decide +kernel⟩
abbrev s_Source___init__ : Stmt := inClass (top 77) 0
abbrev n_Source___init__ : List Str := ["self", "text"]
abbrev p_Source___init__ : List Str := ["self", "text"]
theorem sc_Source___init__ : FnScope n_Source___init__ p_Source___init__ (defScope s_Source___init__) := ⟨rfl, rfl, rfl, by decide +kernel, rfl, by decide +kernel, by decide +kernel⟩
abbrev s_Source_next_line : Stmt := inClass (top 77) 1
abbrev n_Source_next_line : List Str := ["self"]
abbrev p_Source_next_line : List Str := ["self"]
theorem sc_Source_next_line : FnScope n_Source_next_line p_Source_next_line (defScope s_Source_next_line) := ⟨rfl, rfl, rfl, by decide +kernel, rfl, by decide +kernel, by decide +kernel⟩
abbrev s_Source_next_words : Stmt := inClass (top 77) 2
abbrev n_Source_next_words : List Str := ["self"]
abbrev p_Source_next_words : List Str := ["self"]
theorem sc_Source_next_words : FnScope n_Source_next_words p_Source_next_words (defScope s_Source_next_words) := ⟨rfl, rfl, rfl, by decide +kernel, rfl, by decide +kernel, by decide +kernel⟩
abbrev s_Source_is_at : Stmt := inClass (top 77) 3
abbrev n_Source_is_at : List Str := ["self", "level", "line"]
abbrev p_Source_is_at : List Str := ["self", "level"]
theorem sc_Source_is_at : FnScope n_Source_is_at p_Source_is_at (defScope s_Source_is_at) := ⟨rfl, rfl, rfl, by decide +kernel, rfl, by decide +kernel, by decide +kernel⟩
abbrev s_Source_go_on : Stmt := inClass (top 77) 4
abbrev n_Source_go_on : List Str := ["self", "is_right"]
abbrev p_Source_go_on : List Str := ["self", "is_right"]
theorem sc_Source_go_on : FnScope n_Source_go_on p_Source_go_on (defScope s_Source_go_on) := ⟨rfl, rfl, rfl, by decide +kernel, rfl, by decide +kernel, by decide +kernel⟩
abbrev s_read_program : Stmt := top 78
abbrev n_read_program : List Str := ["text", "source", "asks", "signals", "inputs", "rows"]
abbrev p_read_program : List Str := ["text"]
theorem sc_read_program : FnScope n_read_program p_read_program (defScope s_read_program) := ⟨rfl, rfl, rfl, by decide +kernel, rfl, by decide +kernel, by decide +kernel⟩
abbrev s_are_some : Stmt := top 79
abbrev n_are_some : List Str := ["words", "word"]
abbrev p_are_some : List Str := ["words"]
theorem sc_are_some : FnScope n_are_some p_are_some (defScope s_are_some) := ⟨rfl, rfl, rfl, by decide +kernel, rfl, by decide +kernel, by decide +kernel⟩
abbrev s_read_table : Stmt := top 80
abbrev n_read_table : List Str := ["source", "kind", "entries", "last_name", "words", "many", "right"]
abbrev p_read_table : List Str := ["source", "kind"]
theorem sc_read_table : FnScope n_read_table p_read_table (defScope s_read_table) := ⟨rfl, rfl, rfl, by decide +kernel, rfl, by decide +kernel, by decide +kernel⟩
abbrev s_read_list : Stmt := top 81
abbrev n_read_list : List Str := ["source", "level", "rows", "parts"]
abbrev p_read_list : List Str := ["source", "level"]
theorem sc_read_list : FnScope n_read_list p_read_list (defScope s_read_list) := ⟨rfl, rfl, rfl, by decide +kernel, rfl, by decide +kernel, by decide +kernel⟩
abbrev s_parts_of : Stmt := top 82
abbrev n_parts_of : List Str := ["words", "forms", "further", "parts", "at", "form"]
abbrev p_parts_of : List Str := ["words"]
theorem sc_parts_of : FnScope n_parts_of p_parts_of (defScope s_parts_of) := ⟨rfl, rfl, rfl, by decide +kernel, rfl, by decide +kernel, by decide +kernel⟩
abbrev s_read_inner : Stmt := top 83
abbrev n_read_inner : List Str := ["source", "kind", "level", "many", "lists", "number", "form"]
abbrev p_read_inner : List Str := ["source", "kind", "level"]
theorem sc_read_inner : FnScope n_read_inner p_read_inner (defScope s_read_inner) := ⟨rfl, rfl, rfl, by decide +kernel, rfl, by decide +kernel, by decide +kernel⟩
abbrev s_read_sides : Stmt := top 84
abbrev n_read_sides : List Str := ["source", "level", "sides"]
abbrev p_read_sides : List Str := ["source", "level"]
theorem sc_read_sides : FnScope n_read_sides p_read_sides (defScope s_read_sides) := ⟨rfl, rfl, rfl, by decide +kernel, rfl, by decide +kernel, by decide +kernel⟩
abbrev s_is_digit : Stmt := top 85
abbrev n_is_digit : List Str := ["text"]
abbrev p_is_digit : List Str := ["text"]
theorem sc_is_digit : FnScope n_is_digit p_is_digit (defScope s_is_digit) := ⟨rfl, rfl, rfl, by decide +kernel, rfl, by decide +kernel, by decide +kernel⟩
abbrev s_history_text : Stmt := top 86
abbrev n_history_text : List Str := ["history", "turn", "token"]
abbrev p_history_text : List Str := ["history"]
theorem sc_history_text : FnScope n_history_text p_history_text (defScope s_history_text) := ⟨rfl, rfl, rfl, by decide +kernel, rfl, by decide +kernel, by decide +kernel⟩
abbrev s_token_line : Stmt := top 87
abbrev n_token_line : List Str := ["token", "words", "part"]
abbrev p_token_line : List Str := ["token"]
theorem sc_token_line : FnScope n_token_line p_token_line (defScope s_token_line) := ⟨rfl, rfl, rfl, by decide +kernel, rfl, by decide +kernel, by decide +kernel⟩
abbrev s_read_history : Stmt := top 88
abbrev n_read_history : List Str := ["text", "history", "number", "line", "token"]
abbrev p_read_history : List Str := ["text"]
theorem sc_read_history : FnScope n_read_history p_read_history (defScope s_read_history) := ⟨rfl, rfl, rfl, by decide +kernel, rfl, by decide +kernel, by decide +kernel⟩
abbrev s_token_of : Stmt := top 89
abbrev n_token_of : List Str := ["line", "parts", "words", "forms", "form", "word"]
abbrev p_token_of : List Str := ["line"]
theorem sc_token_of : FnScope n_token_of p_token_of (defScope s_token_of) := ⟨rfl, rfl, rfl, by decide +kernel, rfl, by decide +kernel, by decide +kernel⟩
abbrev s_fits_word : Stmt := top 90
abbrev n_fits_word : List Str := ["form", "word", "letter"]
abbrev p_fits_word : List Str := ["form", "word"]
theorem sc_fits_word : FnScope n_fits_word p_fits_word (defScope s_fits_word) := ⟨rfl, rfl, rfl, by decide +kernel, rfl, by decide +kernel, by decide +kernel⟩
abbrev s__law_pool : Stmt := top 92
abbrev n__law_pool : List Str := ["_law_script", "_law_k", "_law_cell", "_law_big"]
abbrev p__law_pool : List Str := ["_law_script", "_law_k"]
theorem sc__law_pool : FnScope n__law_pool p__law_pool (defScope s__law_pool) := ⟨rfl, rfl, rfl, by decide +kernel, rfl, by decide +kernel, by decide +kernel⟩
abbrev s__law_draw : Stmt := top 93
abbrev n__law_draw : List Str := ["_law_pool_here", "_law_many", "_law_one", "_law_two", "_law_digit"]
abbrev p__law_draw : List Str := ["_law_pool_here", "_law_many"]
theorem sc__law_draw : FnScope n__law_draw p__law_draw (defScope s__law_draw) := ⟨rfl, rfl, rfl, by decide +kernel, rfl, by decide +kernel, by decide +kernel⟩
abbrev s__law_item : Stmt := top 94
abbrev n__law_item : List Str := ["_law_pool_here", "_law_items"]
abbrev p__law_item : List Str := ["_law_pool_here", "_law_items"]
theorem sc__law_item : FnScope n__law_item p__law_item (defScope s__law_item) := ⟨rfl, rfl, rfl, by decide +kernel, rfl, by decide +kernel, by decide +kernel⟩
abbrev s__law_call : Stmt := top 95
abbrev n__law_call : List Str := ["_law_number", "_law_value", "_law_told", "e"]
abbrev p__law_call : List Str := ["_law_number", "_law_value"]
theorem sc__law_call : FnScope n__law_call p__law_call (defScope s__law_call) := ⟨rfl, rfl, rfl, by decide +kernel, rfl, by decide +kernel, by decide +kernel⟩
abbrev s__law_nested : Stmt := top 96
abbrev n__law_nested : List Str := ["_law_pool_here", "_law_deep", "_law_lines", "_law_path", "_law_level", "_law_k"]
abbrev p__law_nested : List Str := ["_law_pool_here", "_law_deep"]
theorem sc__law_nested : FnScope n__law_nested p__law_nested (defScope s__law_nested) := ⟨rfl, rfl, rfl, by decide +kernel, rfl, by decide +kernel, by decide +kernel⟩
abbrev s__law_nested_due : Stmt := top 97
abbrev n__law_nested_due : List Str := ["_law_lines", "_law_path", "_law_deep", "_law_k"]
abbrev p__law_nested_due : List Str := ["_law_lines", "_law_path", "_law_deep"]
theorem sc__law_nested_due : FnScope n__law_nested_due p__law_nested_due (defScope s__law_nested_due) := ⟨rfl, rfl, rfl, by decide +kernel, rfl, by decide +kernel, by decide +kernel⟩
abbrev s_law : Stmt := top 98
abbrev n_law : List Str := ["_law_script", "_law_pool_here", "_law_value", "_law_k", "_law_number", "_law_deep", "_law_due", "_law_text", "_law_at", "_law_sign", "_law_lines", "_law_path"]
abbrev p_law : List Str := ["_law_script"]
theorem sc_law : FnScope n_law p_law (defScope s_law) := ⟨rfl, rfl, rfl, by decide +kernel, rfl, by decide +kernel, by decide +kernel⟩
def otab : List (Str × List Str) := [("begin", ["word"])]
def otabN : List Str := (["", "\t", "\tbegin", "#", "#begin", ".", ".begin", "0", "0begin", "Z"] : List Str) ++ (["Zbegin", "_", "_begin", "b\tegin", "b#egin", "b.egin", "b0egin", "bZegin", "b_egin", "be\tgin"] : List Str) ++ (["be#gin", "be.gin", "be0gin", "beZgin", "be_gin", "beg\tin", "beg#in", "beg.in", "beg0in", "begZin"] : List Str) ++ (["beg_in", "begi\tn", "begi#n", "begi.n", "begi0n", "begiZn", "begi_n", "begin\t", "begin#", "begin."] : List Str) ++ (["begin0", "beginZ", "begin_", "begin~", "begi~n", "beg~in", "be~gin", "b~egin", "~", "~begin"] : List Str)
def ctab : List (Str × List Str) := []
def ctabN : List Str := (["\tset", "#set", ".set", "0set", "Zset", "_set", "s\tet", "s#et", "s.et", "s0et"] : List Str) ++ (["sZet", "s_et", "se\tt", "se#t", "se.t", "se0t", "seZt", "se_t", "set\t", "set#"] : List Str) ++ (["set.", "set0", "setZ", "set_", "set~", "se~t", "s~et", "~set"] : List Str)

structure Tx (w : World) (K : PySem.W.Frag) (mg : Str → Option Value) : Prop where
  b_isinstance : mg "isinstance" = none
  b_str : mg "str" = none
  b_int : mg "int" = none
  b_bool : mg "bool" = none
  b_tuple : mg "tuple" = none
  b_list : mg "list" = none
  b_dict : mg "dict" = none
  b_len : mg "len" = none
  b_all : mg "all" = none
  b_zip : mg "zip" = none
  b_enumerate : mg "enumerate" = none
  b_range : mg "range" = none
  b_sorted : mg "sorted" = none
  b_set : mg "set" = none
  b_sum : mg "sum" = none
  m_DEEPEST_LEVEL : ∃ t, mg "DEEPEST_LEVEL" = some (.int (12) t)
  m_LONGEST_NUMBER : ∃ t, mg "LONGEST_NUMBER" = some (.int (5) t)
  m_THROUGH : ∃ t, mg "THROUGH" = some (.int (-1) t)
  m_FINISH : ∃ t, mg "FINISH" = some (.int (-2) t)
  m_MOST_ASKS : ∃ t, mg "MOST_ASKS" = some (.int (6) t)
  m_MOST_ANSWERS : ∃ t, mg "MOST_ANSWERS" = some (.int (4) t)
  m_MOST_SIGNALS : ∃ t, mg "MOST_SIGNALS" = some (.int (3) t)
  m_MOST_ROOM : ∃ t, mg "MOST_ROOM" = some (.int (3) t)
  m_MOST_SIGNAL_WORDS : ∃ t, mg "MOST_SIGNAL_WORDS" = some (.int (3) t)
  m_MOST_INPUTS : ∃ t, mg "MOST_INPUTS" = some (.int (3) t)
  m_MOST_ROWS : ∃ t, mg "MOST_ROWS" = some (.int (60) t)
  m_MOST_LABELS : ∃ t, mg "MOST_LABELS" = some (.int (6) t)
  m_MOST_SLOTS : ∃ t, mg "MOST_SLOTS" = some (.int (4) t)
  m_MOST_GATES : ∃ t, mg "MOST_GATES" = some (.int (8) t)
  m_DEEPEST : ∃ t, mg "DEEPEST" = some (.int (5) t)
  m_MOST_IN_ROW : ∃ t, mg "MOST_IN_ROW" = some (.int (3) t)
  m_LONGEST_WORD : ∃ t, mg "LONGEST_WORD" = some (.int (8) t)
  m_STEP : ∃ t, mg "STEP" = some (.str "  " t)
  m_DIGITS : ∃ t, mg "DIGITS" = some (.str "0123456789" t)
  m_EDIT : ∃ t, mg "EDIT" = some (.str "edit" t)
  m_INPUT_SLOT : ∃ t, mg "INPUT_SLOT" = some (.str "in" t)
  m_FORMS : mg "FORMS" = some (.ref (He.ga K "FORMS"))
  D_FORMS : KD K w (He.ga K "FORMS")
  forms : ∀ e ∈ ftab, ∃ p, PySem.W.nsIn K (He.ga K "FORMS") e.1 = some (some (.ref p)) ∧ ∀ H, SqT K H p (e.2.map V.str)
  m_Program : mg "Program" = some (.ref (He.ga K "Program"))
  m_OUTER_FORMS : mg "OUTER_FORMS" = some (.ref (He.ga K "OUTER_FORMS"))
  D_OUTER_FORMS : KD K w (He.ga K "OUTER_FORMS")
  m_COMMAND_FORMS : mg "COMMAND_FORMS" = some (.ref (He.ga K "COMMAND_FORMS"))
  D_COMMAND_FORMS : KD K w (He.ga K "COMMAND_FORMS")
  m_DIVIDERS : mg "DIVIDERS" = some (.ref (He.ga K "DIVIDERS"))
  m_INNER : mg "INNER" = some (.ref (He.ga K "INNER"))
  t_INNER : ∀ H, SqT K H (He.ga K "INNER") [.str "rows", .str "sides"]
  m_SEVERAL : mg "SEVERAL" = some (.ref (He.ga K "SEVERAL"))
  t_SEVERAL : ∀ H, SqT K H (He.ga K "SEVERAL") [.str "labels", .str "words"]
  outer : ∀ e ∈ otab, ∃ p, PySem.W.nsIn K (He.ga K "OUTER_FORMS") e.1 = some (some (.ref p)) ∧ ∀ H, SqT K H p (e.2.map V.str)
  outN : ∀ z ∈ otabN, PySem.W.nsIn K (He.ga K "OUTER_FORMS") z = some none
  cmd : ∀ e ∈ ctab, ∃ p, PySem.W.nsIn K (He.ga K "COMMAND_FORMS") e.1 = some (some (.ref p)) ∧ ∀ H, SqT K H p (e.2.map V.str)
  cmdN : ∀ z ∈ ctabN, PySem.W.nsIn K (He.ga K "COMMAND_FORMS") z = some none
  c_Source : Cls K (He.ga K "Source")
  n_Source_lines : NoAttr K (He.ga K "Source") "lines"
  n_Source_lines_read : NoAttr K (He.ga K "Source") "lines_read"
  c_RowCheck : Cls K (He.ga K "RowCheck")
  n_RowCheck_ask_table : NoAttr K (He.ga K "RowCheck") "ask_table"
  n_RowCheck_signal_table : NoAttr K (He.ga K "RowCheck") "signal_table"
  n_RowCheck_with_edits : NoAttr K (He.ga K "RowCheck") "with_edits"
  n_RowCheck_seen_edits : NoAttr K (He.ga K "RowCheck") "seen_edits"
  n_RowCheck_seen_gates : NoAttr K (He.ga K "RowCheck") "seen_gates"
  c_Plan : Cls K (He.ga K "Plan")
  n_Plan_flat : NoAttr K (He.ga K "Plan") "flat"
  n_Plan_places : NoAttr K (He.ga K "Plan") "places"
  n_Plan_behind : NoAttr K (He.ga K "Plan") "behind"
  n_Plan_entries : NoAttr K (He.ga K "Plan") "entries"
  n_Plan_sides : NoAttr K (He.ga K "Plan") "sides"
  n_Plan_starts : NoAttr K (He.ga K "Plan") "starts"
  n_Plan_numbers : NoAttr K (He.ga K "Plan") "numbers"
  c_Program : Cls K (He.ga K "Program")
  n_Program_ask_table : NoAttr K (He.ga K "Program") "ask_table"
  n_Program_signal_table : NoAttr K (He.ga K "Program") "signal_table"
  n_Program_input_words : NoAttr K (He.ga K "Program") "input_words"
  n_Program_row_list : NoAttr K (He.ga K "Program") "row_list"
  n_Program_plan : NoAttr K (He.ga K "Program") "plan"
  n_Program_name_table : NoAttr K (He.ga K "Program") "name_table"
end OR

set_option Elab.async false
set_option maxRecDepth 100000
set_option maxHeartbeats 4000000
set_option linter.all false
namespace L2
open PySem PySem.Spec PyProof.Rows
theorem tchainC' {f g : Int → Int → Bool} {c i j : Int} {ta tb tc : TE} {σ : St} {H : Hp} {Q : VK} (ha : Val ta σ H (.int i)) (hb : Val tb σ H (.int j)) (hc : Val tc σ H (.int c)) (h : Q (.bl (f i j && g j c)) H) :
    tChain (rI0 fun i j => .bl (f i j)) (rI0 fun i j => .bl (g i j)) ta tb tc σ H Q := by
  refine ha _ (hb _ ⟨i, j, rfl, rfl, f i j, rfl, ?_⟩)
  cases e : f i j with
  | true =>
    rw [e] at h
    exact iteT (hc _ ⟨j, c, rfl, rfl, h⟩)
  | false =>
    rw [e] at h
    exact iteF h
end L2
namespace OR
open PySem PySem.Spec PyProof.Rows L2 TS2
theorem at0 {x : V} {xs : List V} : atI (x :: xs) 0 = some x := atI_nat (xs := x :: xs) (j := 0) (by rfl)
theorem at1 {x y : V} {xs : List V} : atI (x :: y :: xs) 1 = some y := atI_nat (xs := x :: y :: xs) (j := 1) (by rfl)
theorem tyT {K : PySem.W.Frag} {H : Hp} {a : Addr} {xs : List V} (h : SqT K H a xs) : TyX K H (.ref a) (.type "tuple") := by
  rcases h with (h | ⟨o, h⟩) | ⟨o, _, _, h, hc, _⟩
  · exact .base (.tup h)
  · exact .fTuple h
  · exact .kTuple h hc
theorem tyL {K : PySem.W.Frag} {H : Hp} {a : Addr} {xs : List V} (h : SqL K H a xs) : TyX K H (.ref a) (.type "list") := by
  rcases h with (h | ⟨o, h⟩) | ⟨o, _, _, h, hc, _⟩
  · exact .base (.lst h)
  · exact .base (.frz h)
  · exact .kList h hc
theorem sameT {K : PySem.W.Frag} {H H' : Hp} {a : Addr} {xs : List V} (e : Same H H') (h : SqT K H a xs) : SqT K H' a xs := by
  rcases h with (h | ⟨o, h⟩) | h
  · exact .inl (.inl (e _ _ h))
  · exact .inl (.inr ⟨o, e _ _ h⟩)
  · exact .inr h
/-- a value that is no x -/
def NotA (K : PySem.W.Frag) (H : Hp) (v : V) (x : String) : Prop := ∃ ty, TyX K H v ty ∧ PySem.W.kitOne K ty (.type x) = some false
def lowC (c : Nat) : Bool := (!decide ((⟨#[c]⟩ : Str).cps.toList < ("a" : Str).cps.toList)) && (!decide (("z" : Str).cps.toList < (⟨#[c]⟩ : Str).cps.toList))
def isWord (z : Str) : Bool := (decide (1 ≤ (z.length : Int)) && decide ((z.length : Int) ≤ 8)) && (z.cps.toList.map lowC).all id
/-- no text -/
def NoStrT (K : PySem.W.Frag) (H : Hp) (v : V) : Prop := ∃ ty, TyX K H v ty ∧ PySem.W.kitOne K ty (.type "str") = some false
def spIsWord (K : PySem.W.Frag) : Sp := fun vs H Q _ => (∃ z : Str, vs = [.str z] ∧ z.length ≤ sizeLine ∧ ∀ H', Same H H' → Q (.bl (isWord z)) H') ∨ ∃ v, vs = [v] ∧ NoStrT K H v ∧ Q (.bl false) H
theorem noStr_non {K : PySem.W.Frag} {H : Hp} : NoStrT K H .non := ⟨_, .base .non, kit_ty (by decide +kernel)⟩
theorem noStr_int {K : PySem.W.Frag} {H : Hp} (i : Int) : NoStrT K H (.int i) := ⟨_, .base (.int i), kit_ty (by decide +kernel)⟩
theorem tchainS {i j c : Str} {ta tb : TE} {σ : L2.St} {H : Hp} {Q : VK} (ha : Val ta σ H (.str i)) (hb : Val tb σ H (.str j))
    (h : Q (.bl ((!decide (j.cps.toList < i.cps.toList)) && (!decide (c.cps.toList < j.cps.toList)))) H) :
    tChain (fun x y H Q => ∃ i j, x = V.str i ∧ y = V.str j ∧ Q (V.bl !decide (j.cps.toList < i.cps.toList)) H) (fun x y H Q => ∃ i j, x = V.str i ∧ y = V.str j ∧ Q (V.bl !decide (j.cps.toList < i.cps.toList)) H) ta tb (tC (.str c)) σ H Q := by
  refine ha _ (hb _ ⟨i, j, rfl, rfl, (!decide (j.cps.toList < i.cps.toList)), rfl, ?_⟩)
  cases e : (!decide (j.cps.toList < i.cps.toList)) with
  | true =>
    rw [e] at h
    exact iteT ⟨j, c, rfl, rfl, h⟩
  | false =>
    rw [e] at h
    exact iteF h
theorem tYes_ {σ : L2.St} {H : Hp} {Q : Bool → Hp → Prop} (h : Q true H) : tYes σ H Q := h
def spIsInt : Sp := fun vs H Q _ => ∃ (v : V) (b : Bool), vs = [v] ∧ ((∃ i, v = .int i ∧ b = true) ∨ (∃ c, v = .bl c ∧ b = false) ∨ (∃ z, v = .str z ∧ b = false)) ∧ Q (.bl b) H
def areW (m : Int) (ws : List Str) : Bool := (decide (1 ≤ (ws.length : Int)) && decide ((ws.length : Int) ≤ m)) && ((ws.map isWord).all id && decide (V.int (uniq ws).length = V.int ws.length))
def spAreWords (K : PySem.W.Frag) : Sp := fun vs H Q _ => ∃ (v : V) (m : Int), vs = [v, .int m] ∧
  ((∃ a ws, v = .ref a ∧ SqT K H a (ws.map V.str) ∧ (∀ z ∈ ws, z.length ≤ sizeLine) ∧ ws.length ≤ 1000 ∧ ∀ H', Same H H' → Q (.bl (areW m ws)) H') ∨ (NotA K H v "tuple" ∧ Q (.bl false) H))
section
variable {P : Program} {w : World} {K : PySem.W.Frag} {mg : Str → Option Value} {base : Heap}
theorem ok_is_word {f : Addr} {fd : FuncData} (F : FnP K "is_word" "is_word" s_is_word f fd) (T : Tx w K mg) : FnOk P w K mg base CX0 1 f fd p_is_word (spIsWord K) := by
  refine F.ok sc_is_word (fun vs H Q E h => ?_) (fun cdv A outer s H vs Q E hr h => ?_)
  · rcases h with ⟨z, rfl, _⟩ | ⟨v, rfl, _⟩ <;> rfl
  · obtain ⟨tL, mLONGEST_WORD⟩ := T.m_LONGEST_WORD
    refine ⟨_, PSs.nox (pss_cons (ps_if (PW.pt (pw_or (pt_not (pt_val (pe_callB call_isi (by rfl) T.b_isinstance (by decide +kernel) (pa_cons (pv 0) (pa_cons (pe_bltn (v := .ty "str") (u := .type "str") (by rfl) T.b_str (by decide +kernel) rfl) pa_nil))))) (pw_or1 (pt_not (pt_chain op_le op_le pe_int (pe_callB call_len_str (by rfl) T.b_len PySem.boot_len (pa_cons (pv 0) pa_nil)) (pe_glob (by rfl) mLONGEST_WORD (show RelV (.int (8)) _ from ⟨_, rfl⟩))))))) (pss_one (ps_ret pe_bl)) pss_nil)
      (pss_one (ps_ret (pe_callB (cr_all rfl) (by rfl) T.b_all (by decide +kernel) (pa_cons (pe_lc (own := [("letter", 1)]) (g := (gName 1)) (by rfl) sc_is_word.nd (pi_str (pv 0)) (blkOk_by (N := n_is_word) (sc := defScope s_is_word) (by decide +kernel)) (fun _ _ _ _ _ => (pg_name (i := 1) sc_is_word.nd rfl (.inl rfl))) (fun _ _ _ _ _ => pts_nil) (fun _ _ _ _ _ => (pe_chain op_le_str op_le_str pe_str (pv 1) pe_str))) pa_nil))))), ?_⟩
    rcases h with ⟨z, rfl, hl, k⟩ | ⟨v, rfl, ⟨ty, n1, n2⟩, k⟩
    rotate_left
    · refine ⟨_, rfl, v, .ty "str", _, _, false, rfl, .ty _, n1, n2, _, rfl, ?_⟩
      refine iteT ?_
      refine iteT ?_
      exact k
    refine ⟨_, rfl, .str z, .ty "str", _, _, true, rfl, .ty _, .base (.str z), kit_ty (by decide +kernel), _, rfl, ?_⟩
    refine iteF ?_
    refine tchainC (i := 1) (j := (z.length : Int)) (c := 8) val_c (fun Q q => ⟨_, rfl, _, rfl, hl, q⟩) ⟨_, rfl, ?_⟩
    cases e : (decide (1 ≤ (z.length : Int)) && decide ((z.length : Int) ≤ 8)) with
    | false =>
      refine iteT ?_
      have e2 : isWord z = false := by unfold isWord; rw [e]; rfl
      rw [← e2]
      exact k H (Same.refl H)
    | true =>
      refine iteF ?_
      refine ⟨_, rfl, _, rfl, fun D nD => ?_⟩
      refine lc_it (walk_str (z := z)) (fun i H' => H' = upd H D (.lst (((z.cps.toList.map lowC).take i).map V.bl))) rfl (fun _ _ _ _ => trivial) (fun i x H1 H2 hi p y => ?_) (fun H1 p => ?_)
      · obtain ⟨rfl, c, hc, rfl⟩ := y
        subst p
        refine ⟨rfl, ?_⟩
        refine tYes_ ?_
        refine iteT ?_
        refine tchainS (i := "a") (j := ⟨#[c]⟩) (c := "z") val_c (val_var rfl) ?_
        refine ⟨_, upd_same, ?_, ?_⟩
        · rw [List.length_map, List.length_take, List.length_map]
          refine small1000 ?_
          simp only [Bool.and_eq_true, decide_eq_true_eq] at e
          have : z.cps.toList.length = z.length := by simp [Str.length]
          omega
        · rw [upd_upd]
          have hc' : (z.cps.toList.map lowC)[i]? = some (lowC c) := by
            rw [List.getElem?_map, Array.getElem?_toList, hc]; rfl
          rw [take_more hc', List.map_append]
          rfl
      · subst p
        refine ⟨D, z.cps.toList.map lowC, rfl, SqL.of ?_, ?_⟩
        · rw [upd_same, List.take_of_length_le (by simp)]
        · have e2 : isWord z = (z.cps.toList.map lowC).all id := by unfold isWord; rw [e]; rfl
          rw [← e2]
          exact k _ (Same.new nD)
theorem ok_is_integer {f : Addr} {fd : FuncData} (F : FnP K "is_integer" "is_integer" s_is_integer f fd) (T : Tx w K mg) : FnOk P w K mg base CX0 1 f fd p_is_integer spIsInt := by
  refine F.ok sc_is_integer (fun vs H Q E h => ?_) (fun cdv A outer s H vs Q E hr h => ?_)
  · obtain ⟨v, b, rfl, _⟩ := h
    rfl
  · obtain ⟨v, b, rfl, hv, k⟩ := h
    refine ⟨_, PSs.nox (pss_one (ps_ret (pe_and (pe_callB call_isi (by rfl) T.b_isinstance (by decide +kernel) (pa_cons (pv 0) (pa_cons (pe_bltn (v := .ty "int") (u := .type "int") (by rfl) T.b_int (by decide +kernel) rfl) pa_nil))) (pe_one (pe_not (pe_callB call_isi (by rfl) T.b_isinstance (by decide +kernel) (pa_cons (pv 0) (pa_cons (pe_bltn (v := .ty "bool") (u := .type "bool") (by rfl) T.b_bool (by decide +kernel) rfl) pa_nil)))))))), ?_⟩
    rcases hv with ⟨i, rfl, rfl⟩ | ⟨c, rfl, rfl⟩ | ⟨z, rfl, rfl⟩
    · refine ⟨_, rfl, .int i, .ty "int", _, _, true, rfl, .ty _, .base (.int i), kit_ty (by decide +kernel), _, rfl, ?_⟩
      refine iteT ⟨_, rfl, .int i, .ty "bool", _, _, false, rfl, .ty _, .base (.int i), kit_ty (by decide +kernel), _, rfl, ?_⟩
      exact k
    · refine ⟨_, rfl, .bl c, .ty "int", _, _, true, rfl, .ty _, .base (.bl c), kit_ty (by decide +kernel), _, rfl, ?_⟩
      refine iteT ⟨_, rfl, .bl c, .ty "bool", _, _, true, rfl, .ty _, .base (.bl c), kit_ty (by decide +kernel), _, rfl, ?_⟩
      exact k
    · refine ⟨_, rfl, .str z, .ty "int", _, _, false, rfl, .ty _, .base (.str z), kit_ty (by decide +kernel), _, rfl, ?_⟩
      exact iteF k

theorem ok_are_words {f : Addr} {fd : FuncData} (F : FnP K "are_words" "are_words" s_are_words f fd) (T : Tx w K mg) (G_is_word : Def P w K mg base CX0 1 "is_word" p_is_word (spIsWord K)) : FnOk P w K mg base CX0 2 f fd p_are_words (spAreWords K) := by
  refine F.ok sc_are_words (fun vs H Q E h => ?_) (fun cdv A outer s H vs Q E hr h => ?_)
  · obtain ⟨v, m, rfl, _⟩ := h
    rfl
  · obtain ⟨v, m, rfl, h⟩ := h
    refine ⟨_, PSs.nox (pss_cons (ps_if (PW.pt (pw_or (pt_not (pt_val (pe_callB call_isi (by rfl) T.b_isinstance (by decide +kernel) (pa_cons (pv 0) (pa_cons (pe_bltn (v := .ty "tuple") (u := .type "tuple") (by rfl) T.b_tuple (by decide +kernel) rfl) pa_nil))))) (pw_or1 (pt_not (pt_chain op_le op_le pe_int (pe_callB call_len_seq (by rfl) T.b_len PySem.boot_len (pa_cons (pv 0) pa_nil)) (pv 1)))))) (pss_one (ps_ret pe_bl)) pss_nil)
      (pss_one (ps_ret (pe_and (pe_callB (cr_all rfl) (by rfl) T.b_all (by decide +kernel) (pa_cons (pe_lc (own := [("word", 2)]) (g := (gName 2)) (by rfl) sc_are_words.nd (pi_tup (pv 0)) (blkOk_by (N := n_are_words) (sc := defScope s_are_words) (by decide +kernel)) (fun _ _ _ _ _ => (pg_name (i := 2) sc_are_words.nd rfl (.inl rfl))) (fun _ _ _ _ _ => pts_nil) (fun _ _ _ _ _ => (pe_fn G_is_word (hr.mono (by decide)) (by rfl) pass0 (pa_cons (pv 2) pa_nil)))) pa_nil)) (pe_one (pe_cmpR op_eq (pe_lenU rfl (by rfl) T.b_len (by rfl) T.b_set (pv 0)) (pe_callB call_len_seq (by rfl) T.b_len PySem.boot_len (pa_cons (pv 0) pa_nil)) (nomark _))))))), ?_⟩
    rcases h with ⟨a, ws, rfl, ha, hz, few, k⟩ | ⟨⟨ty, n1, n2⟩, k⟩
    rotate_left
    · refine ⟨_, rfl, v, .ty "tuple", _, _, false, rfl, .ty _, n1, n2, _, rfl, ?_⟩
      refine iteT ?_
      refine iteT ?_
      exact k
    refine ⟨_, rfl, .ref a, .ty "tuple", _, _, true, rfl, .ty _, tyT ha, kit_ty (by decide +kernel), _, rfl, ?_⟩
    refine iteF ?_
    refine tchainC' (i := 1) (j := (ws.length : Int)) (c := m) ?_ ?_ ?_ ?_
    · exact val_c
    · exact fun Q q => ⟨_, rfl, a, _, rfl, .inr ha, by rw [List.length_map]; exact q⟩
    · exact val_var rfl
    refine ⟨_, rfl, ?_⟩
    cases e : (decide (1 ≤ (ws.length : Int)) && decide ((ws.length : Int) ≤ m)) with
    | false =>
      refine iteT ?_
      have e2 : areW m ws = false := by unfold areW; rw [e]; rfl
      rw [← e2]
      exact k H (Same.refl H)
    | true =>
      refine iteF ?_
      refine ⟨_, rfl, a, rfl, ⟨_, ha⟩, fun D nD => ?_⟩
      refine lc_it (walk_tup (K := K) (a := a) (xs := ws.map V.str)) (fun i H' => Same H H' ∧ H' D = some (.lst (((ws.map isWord).take i).map V.bl))) ⟨Same.new nD, upd_same⟩ (fun i H' _ q => sameT q.1 ha) (fun i x H1 H2 hi p y => ?_) (fun H1 p => ?_)
      · obtain ⟨rfl, hx⟩ := y
        obtain ⟨S, hD⟩ := p
        rw [List.getElem?_map] at hx
        cases ez : ws[i]? with
        | none => rw [ez] at hx; cases hx
        | some z =>
          rw [ez] at hx
          cases Option.some.inj hx
          refine ⟨rfl, ?_⟩
          refine tYes_ ?_
          refine iteT ?_
          refine ⟨_, rfl, .inl ⟨z, rfl, hz z (List.mem_of_getElem? ez), fun H2 S2 => ?_⟩⟩
          refine ⟨_, S2 _ _ hD, ?_, fun b o hb => ?_, ?_⟩
          · rw [List.length_map, List.length_take, List.length_map]
            exact small1000 (by omega)
          · rw [upd_ne (ne_of_none hb nD)]
            exact S2 _ _ (S _ _ hb)
          · rw [upd_same, take_more (x := isWord z) (by rw [List.getElem?_map, ez]; rfl), List.map_append]
            rfl
      · obtain ⟨S, hD⟩ := p
        refine ⟨D, ws.map isWord, rfl, SqL.of (by rw [hD, List.length_map, List.take_of_length_le (by simp)]), ?_⟩
        have e2 : areW m ws = ((ws.map isWord).all id && decide (V.int (uniq ws).length = V.int ws.length)) := by unfold areW; rw [e]; rfl
        refine ⟨_, rfl, ?_⟩
        cases e3 : (ws.map isWord).all id with
        | false =>
          refine iteF ?_
          rw [e3] at e2
          have e4 : areW m ws = false := e2
          rw [← e4]
          exact k _ S
        | true =>
          rw [e3] at e2
          refine iteT ⟨_, rfl, a, ws, rfl, sameT S ha, by have : scanBound = 4096 := rfl; omega, ?_⟩
          refine ⟨_, rfl, a, _, rfl, .inr (sameT S ha), rfl, ?_⟩
          rw [List.length_map]
          have e4 : areW m ws = decide (V.int (uniq ws).length = V.int ws.length) := e2
          rw [← e4]
          exact k _ S
end
end OR

set_option Elab.async false
set_option maxRecDepth 100000
set_option maxHeartbeats 4000000
set_option linter.all false
namespace OR
open PySem PySem.Spec PyProof.Rows L2 TS2
theorem cut1 {x : V} {rs : List V} : cutV (x :: rs) (some 1) none = rs := by
  unfold cutV
  simp [HT.sIx]
theorem not_whole {n : Nat} : ¬ (HT.sIx (n + 1) 0 (some 1) = 0 ∧ HT.sIx (n + 1) (n + 1) none = n + 1) := by
  rintro ⟨z, _⟩
  simp [HT.sIx] at z
theorem kids_snoc {R : Type} (ps : List (Pt R)) (p : Pt R) : kids (ps ++ [p]) = kids ps ++ kidsP p := by unfold kids; simp
theorem named_snoc {R : Type} (which fs : List Str) (ps : List (Pt R)) (f : Str) (p : Pt R) (h : fs.length = ps.length) : named which (fs ++ [f]) (ps ++ [p]) = named which fs ps ++ (if f ∈ which then wordsP p else []) := by
  unfold named
  rw [List.zip_append h]
  simp
theorem kids_take_le {R : Type} (ps : List (Pt R)) (i : Nat) : (kids (ps.take i)).length ≤ (kids ps).length := by
  conv => rhs; rw [← List.take_append_drop i ps]
  unfold kids
  rw [List.map_append, List.flatten_append, List.length_append]
  omega
theorem zip_take {α β : Type} : ∀ (xs : List α) (ys : List β) (i : Nat), (xs.take i).zip (ys.take i) = (xs.zip ys).take i
  | [], _, _ => by simp
  | x :: xs, [], i => by simp
  | x :: xs, y :: ys, 0 => by simp
  | x :: xs, y :: ys, i + 1 => by simp [zip_take xs ys i]
theorem named_take_le {R : Type} (which fs : List Str) (ps : List (Pt R)) (i : Nat) : (named which (fs.take i) (ps.take i)).length ≤ (named which fs ps).length := by
  unfold named
  have e : (fs.take i).zip (ps.take i) = (fs.zip ps).take i := zip_take fs ps i
  rw [e]
  conv => rhs; rw [← List.take_append_drop i (fs.zip ps)]
  rw [List.map_append, List.flatten_append, List.length_append]
  omega
theorem inV_words {f : Str} : ∀ (ws : List Str), inV (.str f) (ws.map V.str) = decide (f ∈ ws)
  | [] => rfl
  | x :: ws => by
    have ih := inV_words (f := f) ws
    unfold inV at ih ⊢
    rw [List.map_cons, List.any_cons, ih]
    show ((x == f) || decide (f ∈ ws)) = decide (f ∈ x :: ws)
    by_cases e : x = f
    · subst e; simp
    · have e' : ¬ f = x := fun z => e z.symm
      have b : (x == f) = false := by simpa [beq_iff_eq] using e
      simp [b, e']
theorem flat_words (ws : List Str) : (ws.map V.str).all flatV = true := by
  rw [List.all_map, List.all_eq_true]
  intro x _
  rfl
theorem Kp.D {H0 H1 H2 : Hp} {D : Addr} (S : Same H0 H1) (k : Kp (· = D) H1 H2) (n : H0 D = none) : Same H0 H2 := fun b o hb => k b o (S b o hb) fun z => by rw [z, n] at hb; cases hb
def spListsOf (K : PySem.W.Frag) : Sp := fun vs H Q _ => ∃ (v : V) (H0 : Hp) (d : Nat) (r : Row (d + 1)) (fs : List Str), vs = [v] ∧ RowAt K H0 (d + 1) r v ∧ Same H0 H ∧ (r.1, fs) ∈ ftab ∧ KindsOk fs r.2 ∧ (kids r.2).length ≤ 1000 ∧
  ∀ (H' : Hp) (D : Addr) (xs : List V), Same H H' → H D = none → H' D = some (.lst xs) → All2 (LstAt H0 (RowAt K H0 d)) (kids r.2) xs → Q (.ref D) H'
def spNamed (K : PySem.W.Frag) : Sp := fun vs H Q _ => ∃ (v : V) (t : Addr) (which : List Str) (H0 : Hp) (d : Nat) (r : Row (d + 1)) (fs : List Str), vs = [v, .ref t] ∧ SqT K H t (which.map V.str) ∧ RowAt K H0 (d + 1) r v ∧ Same H0 H ∧ (r.1, fs) ∈ ftab ∧ KindsOk fs r.2 ∧
  (∀ f ∈ which, f ≠ "rows" ∧ f ≠ "sides") ∧ (named which fs r.2).length ≤ 1000 ∧ ∀ (H' : Hp) (D : Addr), Same H H' → H D = none → H' D = some (.lst ((named which fs r.2).map V.str)) → Q (.ref D) H'
section
variable {P : Program} {w : World} {K : PySem.W.Frag} {mg : Str → Option Value} {base : Heap}
theorem ok_lists_of {f : Addr} {fd : FuncData} (F : FnP K "lists_of" "lists_of" s_lists_of f fd) (T : Tx w K mg) : FnOk P w K mg base CX0 1 f fd p_lists_of (spListsOf K) := by
  refine F.ok sc_lists_of (fun vs H Q E h => ?_) (fun cdv A outer s H vs Q E hr h => ?_)
  · obtain ⟨v, _, _, _, _, rfl, _⟩ := h
    rfl
  · obtain ⟨v, H0, d, r, fs, rfl, ⟨a, vs, rfl, ha, hp⟩, S0, hf, hk, few, k⟩ := h
    refine ⟨_, PSs.nox (pss_cons (ps_set (i := 1) sc_lists_of.nd rfl (.inl rfl) (pe_lst pa_nil))
      (pss_cons (ps_for PassesOwn.never rfl (RZ.pi_zipA (by rfl) T.b_zip (pa_cons (pe_ix ix_kdict (pe_ref (by rfl) T.m_FORMS) (pe_ix ix_tup (pv 0) pe_int (fun _ _ => rfl)) (fun _ _ => rfl)) (pa_cons (pe_slice sl_tup (pv 0) (po_some pe_int) po_none) pa_nil))) (pg_tup (by rfl) (pgs_cons (pg_name (i := 2) sc_lists_of.nd rfl (.inl rfl)) (pgs_cons (pg_name (i := 3) sc_lists_of.nd rfl (.inl rfl)) pgs_nil))) (pss_one (ps_if (pt_cmpR op_eq (pv 2) pe_str (nomark _)) (pss_one (ps_expr (pe_bm PySem.F.plainAttrs_list PySem.F.slot_list_append PySem.F.type_list_append mt_append (pv 1) (pa_cons (pv 3) pa_nil)))) (pss_one (ps_if (pt_cmpR op_eq (pv 2) pe_str (nomark _)) (pss_one (ps_expr (pe_bm PySem.F.plainAttrs_list PySem.F.slot_list_extend PySem.F.type_list_extend mt_extendT (pv 1) (pa_cons (pv 3) pa_nil)))) pss_nil)))))
      (pss_one (ps_ret (pv 1))))), ?_⟩
    refine ⟨by show 0 ≤ sizeLine; decide, fun D nD => ?_⟩
    have S1 : Same H (upd H D (.lst [])) := Same.new nD
    have hD : upd H D (.lst []) D = some (.lst []) := upd_same
    generalize upd H D (.lst []) = H1 at S1 hD ⊢
    have ha1 := sameT (S0.trans S1) ha
    obtain ⟨p, e1, hp1⟩ := T.forms _ hf
    refine ⟨_, rfl, a, _, _, .str r.1, rfl, rfl, ha1, at0, _, _, .ref p, rfl, rfl, kdct T.D_FORMS e1 rfl, ?_⟩
    refine ⟨_, rfl, 1, rfl, a, _, rfl, ha1, by rw [List.length_cons]; exact not_whole, fun q nq => ?_⟩
    rw [cut1]
    have S2 : Same H1 (upd H1 q (.tup vs)) := Same.new nq
    have hq : upd H1 q (.tup vs) q = some (.tup vs) := upd_same
    generalize upd H1 q (.tup vs) = H2 at S2 hq ⊢
    refine ⟨p, q, fs.map V.str, vs, rfl, .inr ⟨hp1 _, SqT.of hq, ?_⟩⟩
    have lf : fs.length = vs.length := hk.len.trans hp.len
    refine for_it (walk_zipT (K := K) (a := p) (b := q) (xs := fs.map V.str) (ys := vs) (n := vs.length) (by rw [List.length_map, lf]; simp)) (fun i σ' H' => (∃ x y, σ' = [some (.ref a), some (.ref D), x, y]) ∧ Kp (· = D) H2 H' ∧ ∃ xs, H' D = some (.lst xs) ∧ All2 (LstAt H0 (RowAt K H0 d)) (kids (r.2.take i)) xs)
      ⟨⟨none, none, rfl⟩, Kp.refl _, [], S2 _ _ hD, .nil⟩ (fun i σ' H' _ p0 => ?_) (fun i x σ' H3 H4 hi p0 y => ?_) (fun σ' H' p0 => ?_)
    · obtain ⟨_, kp, _⟩ := p0
      exact ⟨hp1 _, SqT.of (kp _ _ hq (fun z => by rw [z, S2 _ _ hD] at hq; cases hq))⟩
    · obtain ⟨⟨x0, y0, rfl⟩, kp, xs, hx, hxs⟩ := p0
      obtain ⟨T1, fm, pv0, rfl, nT, rfl, hfm, hpv⟩ := y
      have hfm : (fs.map V.str)[i]? = some fm := hfm
      have hpv : vs[i]? = some pv0 := hpv
      rw [List.getElem?_map] at hfm
      cases ef : fs[i]? with
      | none => rw [ef] at hfm; cases hfm
      | some f0 =>
        rw [ef] at hfm
        cases Option.some.inj hfm
        obtain ⟨pt, hpt, hpat⟩ := hp.other hpv
        have ko := hk.at_ ef hpt
        have hx4 : upd H3 T1 (.tup [.str f0, pv0]) D = some (.lst xs) := by rw [upd_ne (ne_of_none hx nT)]; exact hx
        have kp4 : Kp (· = D) H2 (upd H3 T1 (.tup [.str f0, pv0])) := kp.trans (Kp.of (Same.new nT))
        have kl := kids_take_le r.2 (i + 1)
        rw [take_more hpt, kids_snoc, List.length_append] at kl
        have lx := hxs.len
        refine ⟨T1, _, rfl, SqT.of upd_same, rfl, _, _, rfl, _, _, rfl, rfl, ?_⟩
        generalize upd H3 T1 (.tup [.str f0, pv0]) = H5 at hx4 kp4 ⊢
        have fin : ∀ zs, xs.length + zs.length ≤ 1000 → All2 (LstAt H0 (RowAt K H0 d)) (kidsP pt) zs → Kp (· = D) H2 (upd H5 D (.lst (xs ++ zs))) ∧ ∃ ys, upd H5 D (.lst (xs ++ zs)) D = some (.lst ys) ∧ All2 (LstAt H0 (RowAt K H0 d)) (kids (r.2.take (i + 1))) ys := fun zs _ hz =>
          ⟨kp4.trans (Kp.put rfl), _, upd_same, by rw [take_more hpt, kids_snoc]; exact hxs.app hz⟩
        refine ⟨_, rfl, rfl, _, rfl, ?_⟩
        cases pt with
        | rows l =>
          have ef0 : f0 = "rows" := by simpa [kindOk] using ko
          subst ef0
          refine iteT' (by decide +kernel) ?_
          obtain ⟨b, ys, rfl, hb, hys⟩ := hpat
          have z1 : xs.length + 1 ≤ 1000 := by simp [kidsP] at kl; omega
          refine ⟨_, rfl, .inl ⟨rfl, _, SqL.of hx4⟩, _, rfl, D, xs, .ref b, rfl, rfl, hx4, small1000 (by omega), ?_⟩
          exact ⟨⟨_, _, rfl⟩, fin [.ref b] z1 (.one ⟨b, ys, rfl, hb, hys⟩)⟩
        | sides ls =>
          have ef0 : f0 = "sides" := by simpa [kindOk] using ko
          subst ef0
          refine iteF' (by decide +kernel) ?_
          refine ⟨_, rfl, rfl, _, rfl, ?_⟩
          refine iteT' (by decide +kernel) ?_
          obtain ⟨b, ys, rfl, hb, hys⟩ := hpat
          have z1 : xs.length + ys.length ≤ 1000 := by have := hys.len; simp [kidsP] at kl; omega
          refine ⟨_, rfl, .inl ⟨rfl, _, SqL.of hx4⟩, _, rfl, D, b, xs, ys, rfl, rfl, hx4, ?_, Nat.le_of_lt (small1000 z1), ?_⟩
          · exact sameT (Kp.base (S0.trans (S1.trans S2)) kp4 (fun c e => by subst e; exact S0.free nD)) hb
          exact ⟨⟨_, _, rfl⟩, fin ys z1 hys⟩
        | word s0 =>
          have n1 : f0 ≠ "rows" ∧ f0 ≠ "sides" := by simp [kindOk] at ko; exact ⟨ko.1.1.1, ko.1.1.2⟩
          refine iteF' (decide_eq_false fun z => n1.1 (by injection z)) ?_
          refine ⟨_, rfl, rfl, _, rfl, ?_⟩
          refine iteF' (decide_eq_false fun z => n1.2 (by injection z)) ?_
          refine ⟨⟨_, _, rfl⟩, kp4, xs, hx4, ?_⟩
          rw [take_more hpt, kids_snoc]
          simpa [kidsP] using hxs
        | words l0 =>
          have n1 : f0 ≠ "rows" ∧ f0 ≠ "sides" := by
            simp [kindOk] at ko
            rcases ko with rfl | rfl <;> exact ⟨by decide +kernel, by decide +kernel⟩
          refine iteF' (decide_eq_false fun z => n1.1 (by injection z)) ?_
          refine ⟨_, rfl, rfl, _, rfl, ?_⟩
          refine iteF' (decide_eq_false fun z => n1.2 (by injection z)) ?_
          refine ⟨⟨_, _, rfl⟩, kp4, xs, hx4, ?_⟩
          rw [take_more hpt, kids_snoc]
          simpa [kidsP] using hxs
    · obtain ⟨⟨x0, y0, rfl⟩, kp, xs, hx, hxs⟩ := p0
      rw [← hp.len, List.take_length] at hxs
      exact ⟨_, rfl, k H' D xs (fun b o hb => kp b o (S2 b o (S1 b o hb)) (fun z => by rw [z, nD] at hb; cases hb)) nD hx hxs⟩
theorem ok_words_named {f : Addr} {fd : FuncData} (F : FnP K "words_named" "words_named" s_words_named f fd) (T : Tx w K mg) : FnOk P w K mg base CX0 1 f fd p_words_named (spNamed K) := by
  refine F.ok sc_words_named (fun vs H Q E h => ?_) (fun cdv A outer s H vs Q E hr h => ?_)
  · obtain ⟨v, t, _, _, _, _, _, rfl, _⟩ := h
    rfl
  · obtain ⟨v, t, which, H0, d, r, fs, rfl, ht, ⟨a, vs, rfl, ha, hp⟩, S0, hf, hk, nk, few, k⟩ := h
    refine ⟨_, PSs.nox (pss_cons (ps_set (i := 2) sc_words_named.nd rfl (.inl rfl) (pe_lst pa_nil))
      (pss_cons (ps_for PassesOwn.never rfl (RZ.pi_zipA (by rfl) T.b_zip (pa_cons (pe_ix ix_kdict (pe_ref (by rfl) T.m_FORMS) (pe_ix ix_tup (pv 0) pe_int (fun _ _ => rfl)) (fun _ _ => rfl)) (pa_cons (pe_slice sl_tup (pv 0) (po_some pe_int) po_none) pa_nil))) (pg_tup (by rfl) (pgs_cons (pg_name (i := 3) sc_words_named.nd rfl (.inl rfl)) (pgs_cons (pg_name (i := 4) sc_words_named.nd rfl (.inl rfl)) pgs_nil))) (pss_one (ps_if (PW.pt (pw_and (pt_cmpR op_in_seq (pv 3) (pv 1) (by rfl)) (pw_and1 (pt_val (pe_callB call_isi (by rfl) T.b_isinstance (by decide +kernel) (pa_cons (pv 4) (pa_cons (pe_bltn (v := .ty "tuple") (u := .type "tuple") (by rfl) T.b_tuple (by decide +kernel) rfl) pa_nil))))))) (pss_one (ps_expr (pe_bm PySem.F.plainAttrs_list PySem.F.slot_list_extend PySem.F.type_list_extend mt_extendT (pv 2) (pa_cons (pv 4) pa_nil)))) (pss_one (ps_if (pt_cmpR op_in_seq (pv 3) (pv 1) (by rfl)) (pss_one (ps_expr (pe_bm PySem.F.plainAttrs_list PySem.F.slot_list_append PySem.F.type_list_append mt_append (pv 2) (pa_cons (pv 4) pa_nil)))) pss_nil)))))
      (pss_one (ps_ret (pv 2))))), ?_⟩
    refine ⟨by show 0 ≤ sizeLine; decide, fun D nD => ?_⟩
    have S1 : Same H (upd H D (.lst [])) := Same.new nD
    have hD : upd H D (.lst []) D = some (.lst []) := upd_same
    generalize upd H D (.lst []) = H1 at S1 hD ⊢
    have ha1 := sameT (S0.trans S1) ha
    obtain ⟨p, e1, hp1⟩ := T.forms _ hf
    refine ⟨_, rfl, a, _, _, .str r.1, rfl, rfl, ha1, at0, _, _, .ref p, rfl, rfl, kdct T.D_FORMS e1 rfl, ?_⟩
    refine ⟨_, rfl, 1, rfl, a, _, rfl, ha1, by rw [List.length_cons]; exact not_whole, fun q nq => ?_⟩
    rw [cut1]
    have S2 : Same H1 (upd H1 q (.tup vs)) := Same.new nq
    have hq : upd H1 q (.tup vs) q = some (.tup vs) := upd_same
    generalize upd H1 q (.tup vs) = H2 at S2 hq ⊢
    refine ⟨p, q, fs.map V.str, vs, rfl, .inr ⟨hp1 _, SqT.of hq, ?_⟩⟩
    have lf : fs.length = vs.length := hk.len.trans hp.len
    refine for_it (walk_zipT (K := K) (a := p) (b := q) (xs := fs.map V.str) (ys := vs) (n := vs.length) (by rw [List.length_map, lf]; simp)) (fun i σ' H' => (∃ x y, σ' = [some (.ref a), some (.ref t), some (.ref D), x, y]) ∧ Kp (· = D) H2 H' ∧ H' D = some (.lst ((named which (fs.take i) (r.2.take i)).map V.str)))
      ⟨⟨none, none, rfl⟩, Kp.refl _, S2 _ _ hD⟩ (fun i σ' H' _ p0 => ?_) (fun i x σ' H3 H4 hi p0 y => ?_) (fun σ' H' p0 => ?_)
    · obtain ⟨_, kp, _⟩ := p0
      exact ⟨hp1 _, SqT.of (kp _ _ hq (fun z => by rw [z, S2 _ _ hD] at hq; cases hq))⟩
    · obtain ⟨⟨x0, y0, rfl⟩, kp, hx⟩ := p0
      obtain ⟨T1, fm, pv0, rfl, nT, rfl, hfm, hpv⟩ := y
      have hfm : (fs.map V.str)[i]? = some fm := hfm
      have hpv : vs[i]? = some pv0 := hpv
      rw [List.getElem?_map] at hfm
      cases ef : fs[i]? with
      | none => rw [ef] at hfm; cases hfm
      | some f0 =>
        rw [ef] at hfm
        cases Option.some.inj hfm
        obtain ⟨pt, hpt, hpat⟩ := hp.other hpv
        have ko := hk.at_ ef hpt
        have lt : (fs.take i).length = (r.2.take i).length := by rw [List.length_take, List.length_take, hk.len]
        have hx4 : upd H3 T1 (.tup [.str f0, pv0]) D = some (.lst ((named which (fs.take i) (r.2.take i)).map V.str)) := by rw [upd_ne (ne_of_none hx nT)]; exact hx
        have kp4 : Kp (· = D) H2 (upd H3 T1 (.tup [.str f0, pv0])) := kp.trans (Kp.of (Same.new nT))
        have kl := named_take_le which fs r.2 (i + 1)
        rw [take_more hpt, take_more ef, named_snoc _ _ _ _ _ lt, List.length_append] at kl
        refine ⟨T1, _, rfl, SqT.of upd_same, rfl, _, _, rfl, _, _, rfl, rfl, ?_⟩
        generalize upd H3 T1 (.tup [.str f0, pv0]) = H5 at hx4 kp4 ⊢
        have S5 : Same H0 H5 := Kp.base (S0.trans (S1.trans S2)) kp4 (fun c e => by subst e; exact S0.free nD)
        have ht5 : SqT K H5 t (which.map V.str) := sameT (Kp.D (S1.trans S2) kp4 nD) ht
        have fin : ∀ zs : List Str, (if f0 ∈ which then wordsP pt else []) = zs → Kp (· = D) H2 (upd H5 D (.lst ((named which (fs.take i) (r.2.take i)).map V.str ++ zs.map V.str))) ∧ upd H5 D (.lst ((named which (fs.take i) (r.2.take i)).map V.str ++ zs.map V.str)) D = some (.lst ((named which (fs.take (i + 1)) (r.2.take (i + 1))).map V.str)) := fun zs hz =>
          ⟨kp4.trans (Kp.put rfl), by rw [upd_same, take_more hpt, take_more ef, named_snoc _ _ _ _ _ lt, hz, List.map_append]⟩
        refine ⟨_, rfl, _, rfl, t, _, rfl, .inr ht5, rfl, flat_words _, _, rfl, ?_⟩
        have e3 : (if false = true then !inV (.str f0) (which.map V.str) else inV (.str f0) (which.map V.str)) = decide (f0 ∈ which) := inV_words _
        have again : ∀ {A B : Prop}, (f0 ∈ which → A) → (f0 ∉ which → B) → if (if false = true then !inV (.str f0) (which.map V.str) else inV (.str f0) (which.map V.str)) = true then A else B := fun {A B} h1 h2 => by
          rw [e3]
          by_cases c : f0 ∈ which
          · rw [if_pos (decide_eq_true c)]; exact h1 c
          · rw [if_neg (by simp [c])]; exact h2 c
        refine again (fun c => ?_) (fun c => ?_)
        · obtain ⟨c1, c2⟩ := nk f0 c
          cases pt with
          | rows l => exact absurd (show f0 = "rows" by simpa [kindOk] using ko) c1
          | sides l => exact absurd (show f0 = "sides" by simpa [kindOk] using ko) c2
          | words l =>
            obtain ⟨b, rfl, hb⟩ := hpat
            refine ⟨_, rfl, .ref b, .ty "tuple", _, _, true, rfl, .ty _, tyT (sameT S5 hb), kit_ty (by decide +kernel), _, rfl, ?_⟩
            refine iteT ?_
            rw [if_pos c] at kl
            have z1 : ((named which (fs.take i) (r.2.take i)).map V.str).length + (l.map V.str).length ≤ 1000 := by rw [List.length_map, List.length_map]; simp [wordsP] at kl; omega
            refine ⟨_, rfl, .inl ⟨rfl, _, SqL.of hx4⟩, _, rfl, D, b, _, _, rfl, rfl, hx4, sameT S5 hb, Nat.le_of_lt (small1000 z1), ?_⟩
            exact ⟨⟨_, _, rfl⟩, fin l (by rw [if_pos c]; rfl)⟩
          | word s0 =>
            cases (show pv0 = .str s0 from hpat)
            refine ⟨_, rfl, .str s0, .ty "tuple", _, _, false, rfl, .ty _, .base (.str _), kit_ty (by decide +kernel), _, rfl, ?_⟩
            refine iteF ?_
            refine ⟨_, rfl, _, rfl, t, _, rfl, .inr ht5, rfl, flat_words _, _, rfl, ?_⟩
            refine again (fun _ => ?_) (fun c' => absurd c c')
            rw [if_pos c] at kl
            have z1 : ((named which (fs.take i) (r.2.take i)).map V.str).length ≤ 1000 := by rw [List.length_map]; omega
            refine ⟨_, rfl, .inl ⟨rfl, _, SqL.of hx4⟩, _, rfl, D, _, .str s0, rfl, rfl, hx4, small1000 z1, ?_⟩
            exact ⟨⟨_, _, rfl⟩, fin [s0] (by rw [if_pos c]; rfl)⟩
        · refine ⟨_, rfl, _, rfl, t, _, rfl, .inr ht5, rfl, flat_words _, _, rfl, ?_⟩
          refine again (fun c' => absurd c' c) (fun _ => ?_)
          refine ⟨⟨_, _, rfl⟩, kp4, ?_⟩
          rw [hx4, take_more hpt, take_more ef, named_snoc _ _ _ _ _ lt, if_neg c, List.append_nil]
    · obtain ⟨⟨x0, y0, rfl⟩, kp, hx⟩ := p0
      rw [← lf, List.take_length, lf, ← hp.len, List.take_length] at hx
      exact ⟨_, rfl, k H' D (Kp.D (S1.trans S2) kp nD) nD hx⟩
end
end OR

set_option Elab.async false
set_option maxRecDepth 100000
set_option maxHeartbeats 4000000
set_option linter.all false
namespace L2
open PySem PySem.Spec PyProof.Rows
/-- a walk within a comprehension: B the turn's reading, from which Pv of the next is to be reached -/
theorem out_it {J : It} {n : Nat} {G : Hp → Prop} {Y : Nat → Hp → V → Hp → Prop} (w : Walk J n G Y) {B : V → Hp → (Hp → Prop) → Prop} {Qd : Hp → Prop} {H1 : Hp} (Pv : Nat → Hp → Prop) (h0 : Pv 0 H1) (hG : ∀ i H, i ≤ n → Pv i H → G H)
    (hs : ∀ i x H H', i < n → Pv i H → Y i H x H' → B x H' (Pv (i + 1))) (hd : ∀ H, Pv n H → Qd H) :
    ∃ W : Nat → Nat → Hp → Prop, (∃ m, W 0 m H1) ∧ ∀ i m H, W i m H → (J.stop i H ∧ Qd H) ∨ (J.go i H ∧ ∃ Nx : Hp → Prop, (∀ H', Nx H' → ∃ m', m' < m ∧ W (i + 1) m' H') ∧ ∀ x H', J.yld i H x H' → B x H' Nx) := by
  refine ⟨fun i m H => m = n - i ∧ i ≤ n ∧ Pv i H, ⟨n, by simp, Nat.zero_le _, h0⟩, ?_⟩
  rintro i m H ⟨rfl, hi, p⟩
  have q := hG i H hi p
  by_cases hlt : i < n
  · exact .inr ⟨w.goes i H hlt q, Pv (i + 1), fun H' p' => ⟨n - (i + 1), by omega, rfl, hlt, p'⟩, fun x H' y => hs i x H H' hlt p (w.yields i H x H' hlt q y)⟩
  · have e : i = n := by omega
    subst e
    exact .inl ⟨w.stops H q, hd H p⟩
/-- a block without captured names, within any scope -/
theorem blkOk_any {N : List Str} {sc scope : Scope} {own : List (Str × Nat)} (h : blkC N { scope with names := [] } scope own = true) : BlkOk N sc scope own := by
  obtain ⟨h1, h2, h3, h4, h5⟩ := blkOk_by h
  exact ⟨h1, h2, h3, fun y hy e => by
    rcases h4 y hy e with z | z <;> simp at z, h5⟩
end L2
namespace OR
open PySem PySem.Spec PyProof.Rows L2 TS2
theorem LstAt.mono {R : Type} {H H' : Hp} {RA RA' : R → V → Prop} {l : List R} {v : V} (s : Same H H') (m : ∀ r v, RA r v → RA' r v) (h : LstAt H RA l v) : LstAt H' RA' l v := by
  obtain ⟨a, xs, rfl, ha, hx⟩ := h
  exact ⟨a, xs, rfl, s _ _ ha, hx.imp fun x y _ q => m x y q⟩
theorem PtAt.mono {K : PySem.W.Frag} {R : Type} {H H' : Hp} {RA RA' : R → V → Prop} {p : Pt R} {v : V} (s : Same H H') (m : ∀ r v, RA r v → RA' r v) (h : PtAt K H RA p v) : PtAt K H' RA' p v := by
  cases p with
  | word z => exact h
  | words l =>
    obtain ⟨a, rfl, ha⟩ := h
    exact ⟨a, rfl, sameT s ha⟩
  | rows l => exact LstAt.mono s m h
  | sides ls =>
    obtain ⟨a, vs, rfl, ha, hx⟩ := h
    exact ⟨a, vs, rfl, sameT s ha, hx.imp fun x y _ q => LstAt.mono s m q⟩
theorem RowAt.mono {K : PySem.W.Frag} {H H' : Hp} (s : Same H H') : ∀ {d : Nat} {r : Row d} {v : V}, RowAt K H d r v → RowAt K H' d r v
  | 0, r, _, _ => nomatch r
  | d + 1, r, v, h => by
    obtain ⟨a, vs, rfl, ha, hx⟩ := h
    exact ⟨a, vs, rfl, sameT s ha, hx.imp fun x y _ q => PtAt.mono s (fun r v q => RowAt.mono s q) q⟩
/-- H where S holds -/
noncomputable def res (S : Addr → Prop) (H : Hp) : Hp := fun b => @ite _ (S b) (Classical.propDecidable _) (H b) none
theorem res_of {S : Addr → Prop} {H : Hp} {b : Addr} (h : S b) : res S H b = H b := by unfold res; rw [if_pos h]
theorem res_some {S : Addr → Prop} {H : Hp} {b : Addr} {o : HO} (h : res S H b = some o) : S b ∧ H b = some o := by
  unfold res at h
  by_cases c : S b
  · rw [if_pos c] at h; exact ⟨c, h⟩
  · rw [if_neg c] at h; cases h
theorem same_res {S S' : Addr → Prop} {H H' : Hp} (h : ∀ b o, S b → H b = some o → S' b ∧ H' b = some o) : Same (res S H) (res S' H') := fun b o e => by
  obtain ⟨c, e⟩ := res_some e
  obtain ⟨c', e'⟩ := h b o c e
  rw [res_of c', e']
theorem res_same {S : Addr → Prop} {H : Hp} : Same (res S H) H := fun b o e => (res_some e).2
/-- of H0, or new -/
def Nw (H0 H : Hp) (b : Addr) : Prop := H0 b ≠ none ∨ H b = none
/-- the forms: rows stand last -/
def cntR (fs : List Str) : Nat := fs.count ("rows" : Str)
theorem ftab_ends : ∀ e ∈ ftab, (e.1 = "both" ∧ e.2 = [("sides" : Str)]) ∨ (e.1 ≠ "both" ∧ (∀ f ∈ e.2.take (e.2.length - cntR e.2), f ≠ "rows" ∧ f ≠ "sides") ∧ e.2.drop (e.2.length - cntR e.2) = List.replicate (cntR e.2) ("rows" : Str)) := by
  decide +kernel
theorem kids_app {R : Type} (a b : List (Pt R)) : kids (a ++ b) = kids a ++ kids b := by
  unfold kids
  rw [List.map_append, List.flatten_append]
theorem kids_plain {R : Type} : ∀ {fs : List Str} {ps : List (Pt R)}, KindsOk fs ps → (∀ f ∈ fs, f ≠ "rows" ∧ f ≠ "sides") → kids ps = []
  | [], [], _, _ => rfl
  | f :: fs, p :: ps, .cons h t, n => by
    have ih := kids_plain t fun g hg => n g (List.mem_cons_of_mem _ hg)
    have e : kids (p :: ps) = kidsP p ++ kids ps := by unfold kids; simp
    rw [e, ih]
    obtain ⟨n1, n2⟩ := n f List.mem_cons_self
    cases p with
    | rows l => exact absurd (show f = "rows" by simpa [kindOk] using h) n1
    | sides l => exact absurd (show f = "sides" by simpa [kindOk] using h) n2
    | word _ => rfl
    | words _ => rfl
theorem kids_rows {R : Type} : ∀ {n : Nat} {ps : List (Pt R)}, KindsOk (List.replicate n ("rows" : Str)) ps → ps = (kids ps).map Pt.rows ∧ (kids ps).length = n
  | 0, [], _ => ⟨rfl, rfl⟩
  | n + 1, p :: ps, h => by
    cases h with
    | cons h t =>
      obtain ⟨e1, e2⟩ := kids_rows (n := n) t
      have e : kids (p :: ps) = kidsP p ++ kids ps := by unfold kids; simp
      cases p with
      | rows l =>
        rw [e]
        refine ⟨?_, ?_⟩
        · show Pt.rows l :: ps = Pt.rows l :: (kids ps).map Pt.rows
          rw [← e1]
        · show (kids ps).length + 1 = n + 1
          rw [e2]
      | sides l => exact absurd h (by simp [kindOk] <;> decide +kernel)
      | word _ => exact absurd h (by simp [kindOk] <;> decide +kernel)
      | words _ => exact absurd h (by simp [kindOk] <;> decide +kernel)
theorem All2.drop {α β : Type} {R : α → β → Prop} {xs : List α} {ys : List β} (h : All2 R xs ys) : ∀ n, All2 R (xs.drop n) (ys.drop n) := by
  induction h with
  | nil => intro n; simp; exact .nil
  | cons h t ih =>
    intro n
    cases n with
    | zero => exact .cons h t
    | succ n => exact ih n
/-- a row of no both: the plain parts, then its lists -/
theorem row_split {R : Type} {w : Str} {fs : List Str} {ps : List (Pt R)} (hf : (w, fs) ∈ ftab) (hk : KindsOk fs ps) : (w = "both" ∧ ∃ ls, ps = [.sides ls] ∧ kids ps = ls) ∨
    (w ≠ "both" ∧ ∃ n, n + (kids ps).length = ps.length ∧ ps = ps.take n ++ (kids ps).map Pt.rows) := by
  rcases ftab_ends _ hf with ⟨h1, h2⟩ | ⟨h1, h2, h3⟩
  · left
    refine ⟨h1, ?_⟩
    have h2 : fs = [("sides" : Str)] := h2
    subst h2
    cases hk with
    | cons h t =>
      cases t
      rename_i p
      cases p with
      | sides ls => exact ⟨ls, rfl, by simp [kids, kidsP]⟩
      | rows l => exact absurd h (by simp [kindOk] <;> decide +kernel)
      | word _ => exact absurd h (by simp [kindOk] <;> decide +kernel)
      | words _ => exact absurd h (by simp [kindOk] <;> decide +kernel)
  · right
    refine ⟨h1, fs.length - cntR fs, ?_⟩
    have a1 := kids_plain (hk.take (fs.length - cntR fs)) h2
    have h3 : fs.drop (fs.length - cntR fs) = List.replicate (cntR fs) ("rows" : Str) := h3
    have a2 := All2.drop hk (fs.length - cntR fs)
    rw [h3] at a2
    obtain ⟨e1, e2⟩ := kids_rows a2
    have ek : kids ps = kids (ps.drop (fs.length - cntR fs)) := by
      conv => lhs; rw [← List.take_append_drop (fs.length - cntR fs) ps]
      rw [kids_app, a1]
      rfl
    have cl : cntR fs ≤ fs.length := List.count_le_length
    have lp := hk.len
    refine ⟨by rw [ek, e2]; omega, ?_⟩
    conv => lhs; rw [← List.take_append_drop (fs.length - cntR fs) ps]
    rw [ek, ← e1]
def spWith (K : PySem.W.Frag) : Sp := fun vs H Q _ => ∃ (v : V) (L : Addr) (Hx : Hp) (d : Nat) (r : Row (d + 1)) (fs : List Str) (xs : List V), vs = [v, .ref L] ∧ RowAt K Hx (d + 1) r v ∧ Same Hx H ∧ (r.1, fs) ∈ ftab ∧ KindsOk fs r.2 ∧ r.2.length ≤ 1000 ∧ (kids r.2).length ≤ 1000 ∧
  H L = some (.lst xs) ∧ All2 (LstAt Hx (RowAt K Hx d)) (kids r.2) xs ∧ ∀ (H' : Hp) (t : Addr), Same H H' → RowAt K (res (Nw Hx H) H') (d + 1) r (.ref t) → Q (.ref t) H'
theorem same_nw {Hx H H' : Hp} (s : Same Hx H) (t : Same H H') : Same Hx (res (Nw Hx H) H') := fun b o e => by
  rw [res_of (S := Nw Hx H) (.inl (by rw [e]; simp))]
  exact t b o (s b o e)
theorem nw_at {Hx H H' : Hp} {b : Addr} {o : HO} (n : H b = none) (e : H' b = some o) : res (Nw Hx H) H' b = some o := by
  rw [res_of (S := Nw Hx H) (.inr n)]
  exact e
section
variable {P : Program} {w : World} {K : PySem.W.Frag} {mg : Str → Option Value} {base : Heap}
theorem ok_with_lists {f : Addr} {fd : FuncData} (F : FnP K "with_lists" "with_lists" s_with_lists f fd) (T : Tx w K mg) : FnOk P w K mg base CX0 1 f fd p_with_lists (spWith K) := by
  refine F.ok sc_with_lists (fun vs H Q E h => ?_) (fun cdv A outer s H vs Q E hr h => ?_)
  · obtain ⟨v, L, _, _, _, _, _, rfl, _⟩ := h
    rfl
  · obtain ⟨v, L, Hx, d, r, fs, xs, rfl, ⟨a, vs, rfl, ha, hp⟩, Sx, hf, hk, few1, few2, hL, hxs, k⟩ := h
    refine ⟨_, PSs.nox (pss_cons (ps_if (pt_cmpR op_eq (pe_ix ix_tup (pv 0) pe_int (fun _ _ => rfl)) pe_str (nomark _)) (pss_one (ps_ret (pe_tup (pa_cons pe_str (pa_cons (pe_callTy call_tuple_of (by rfl) T.b_tuple (by decide +kernel) (pa_cons (pv 1) pa_nil)) pa_nil))))) pss_nil)
      (pss_one (ps_ret (pe_op op_catA (pe_slice sl_tupA (pv 0) po_none (po_some (pe_op op_sub (pe_callB call_len_seq (by rfl) T.b_len PySem.boot_len (pa_cons (pv 0) pa_nil)) (pe_callB call_len_seq (by rfl) T.b_len PySem.boot_len (pa_cons (pv 1) pa_nil))))) (pe_callTy call_tuple_of (by rfl) T.b_tuple (by decide +kernel) (pa_cons (pv 1) pa_nil)))))), ?_⟩
    have ha1 := sameT Sx ha
    refine ⟨_, rfl, a, _, _, .str r.1, rfl, rfl, ha1, at0, rfl, _, rfl, ?_⟩
    rcases row_split hf hk with ⟨e1, ls, e2, e3⟩ | ⟨e1, n, e2, e3⟩
    · refine iteT' (decide_eq_true (by rw [e1])) ?_
      refine ⟨_, rfl, L, xs, rfl, .inl ⟨SqL.of hL, fun t1 n1 => ?_⟩⟩
      have S1 : Same H (upd H t1 (.tup xs)) := Same.new n1
      have h1 : upd H t1 (.tup xs) t1 = some (.tup xs) := upd_same
      generalize upd H t1 (.tup xs) = H1 at S1 h1 ⊢
      refine ⟨by show 2 ≤ sizeLine; decide, fun t2 n2 => ?_⟩
      have S2 : Same H1 (upd H1 t2 (.tup [.str "both", .ref t1])) := Same.new n2
      have h2 : upd H1 t2 (.tup [.str "both", .ref t1]) t2 = some (.tup [.str "both", .ref t1]) := upd_same
      generalize upd H1 t2 (.tup [.str "both", .ref t1]) = H2 at S2 h2 ⊢
      have SS := same_nw Sx (S1.trans S2)
      refine k H2 t2 (S1.trans S2) ⟨t2, [.ref t1], rfl, SqT.of (nw_at (S1.free n2) (by rw [e1]; exact h2)), ?_⟩
      rw [e2]
      refine .one ⟨t1, xs, rfl, SqT.of (nw_at n1 (S2 _ _ h1)), ?_⟩
      rw [e3] at hxs
      exact hxs.imp fun x y _ q => LstAt.mono SS (fun r v q => RowAt.mono SS q) q
    · refine iteF' (decide_eq_false fun z => e1 (by injection z)) ?_
      have lp := hp.len
      have lx := hxs.len
      have lz : ((V.str r.1 :: vs).length : Int) - (xs.length : Int) = ((n + 1 : Nat) : Int) := by rw [List.length_cons]; omega
      have hzero : xs.length + n = vs.length := by omega
      have parts : ∀ {Hr : Hp}, Same Hx Hr → All2 (PtAt K Hr (RowAt K Hr d)) r.2 (vs.take n ++ xs) := fun {Hr} SS => by
        rw [e3]
        refine All2.app ((hp.take n).imp fun x y _ q => PtAt.mono SS (fun r v q => RowAt.mono SS q) q) ?_
        have m : ∀ {ls : List (List (Row d))} {ys : List V}, All2 (LstAt Hx (RowAt K Hx d)) ls ys → All2 (PtAt K Hr (RowAt K Hr d)) (ls.map Pt.rows) ys := fun {ls ys} h => by
          induction h with
          | nil => exact .nil
          | cons h _ ih => exact .cons (LstAt.mono SS (fun r v q => RowAt.mono SS q) h) ih
        exact m hxs
      have ec : cutV (V.str r.1 :: vs) none (some (((V.str r.1 :: vs).length : Int) - (xs.length : Int))) = V.str r.1 :: vs.take n := by
        rw [lz]
        unfold cutV
        rw [HT.sIx_nat, HT.sIx_none]
        simp
      refine ⟨_, rfl, _, rfl, a, _, rfl, .inr ha1, _, rfl, L, _, rfl, .inl (SqL.of hL), _, _, rfl, rfl, _, rfl, a, _, rfl, ha1, fun wh => ?_, fun nw p np => ?_⟩
      · have en : vs.take n = vs := by
          have z := wh.2
          rw [lz, HT.sIx_nat, List.length_cons] at z
          exact List.take_of_length_le (by omega)
        have hb : SqT K H a (.str r.1 :: vs.take n) := en.symm ▸ ha1
        have S1 : Same H H := Same.refl H
        refine ⟨_, rfl, L, xs, rfl, .inl ⟨SqL.of (S1 _ _ hL), fun t1 n1 => ?_⟩⟩
        refine ⟨a, t1, _, _, rfl, rfl, sameT (Same.new n1) hb, SqT.of upd_same, (by rw [List.length_cons, List.length_take, sizeLine_eq]; omega), fun z => by simp at z, fun _ z => ?_, fun _ _ p3 n3 => ?_⟩
        · refine k _ _ (S1.trans (Same.new n1)) ⟨a, vs.take n, rfl, ?_, ?_⟩
          · exact by rw [en]; exact sameT (same_nw Sx ((Same.refl H).trans (Same.new (o := .tup xs) n1))) ha
          · have q := parts (same_nw Sx (S1.trans (Same.new (o := .tup xs) n1)))
            have en2 : vs.take n ++ xs = vs.take n := by rw [z, List.append_nil]
            rw [en2] at q
            exact q
        · refine k _ _ ((S1.trans (Same.new n1)).trans (Same.new n3)) ⟨p3, vs.take n ++ xs, rfl, SqT.of (nw_at ((S1.trans (Same.new n1)).free n3) upd_same), parts (same_nw Sx ((S1.trans (Same.new n1)).trans (Same.new n3)))⟩
      · rw [ec]
        have hb : SqT K (upd H p (.tup (V.str r.1 :: vs.take n))) p (.str r.1 :: vs.take n) := SqT.of upd_same
        have S1 : Same H (upd H p (.tup (V.str r.1 :: vs.take n))) := Same.new np
        refine ⟨_, rfl, L, xs, rfl, .inl ⟨SqL.of (S1 _ _ hL), fun t1 n1 => ?_⟩⟩
        refine ⟨p, t1, _, _, rfl, rfl, sameT (Same.new n1) hb, SqT.of upd_same, (by rw [List.length_cons, List.length_take, sizeLine_eq]; omega), fun z => by simp at z, fun _ z => ?_, fun _ _ p3 n3 => ?_⟩
        · refine k _ _ (S1.trans (Same.new n1)) ⟨p, vs.take n, rfl, ?_, ?_⟩
          · exact SqT.of (nw_at np (by rw [upd_ne (ne_of_none upd_same n1)]; exact upd_same))
          · have q := parts (same_nw Sx (S1.trans (Same.new (o := .tup xs) n1)))
            have en2 : vs.take n ++ xs = vs.take n := by rw [z, List.append_nil]
            rw [en2] at q
            exact q
        · refine k _ _ ((S1.trans (Same.new n1)).trans (Same.new n3)) ⟨p3, vs.take n ++ xs, rfl, SqT.of (nw_at ((S1.trans (Same.new n1)).free n3) upd_same), parts (same_nw Sx ((S1.trans (Same.new n1)).trans (Same.new n3)))⟩
end
end OR

set_option Elab.async false
set_option maxRecDepth 100000
set_option maxHeartbeats 4000000
set_option linter.all false
namespace OR
open PySem PySem.Spec PyProof.Rows L2 TS2
/-- the forms are known, the numbers are small, all the way down -/
def Shape : (d : Nat) → Row d → Prop
  | 0, r => nomatch r
  | d + 1, r => (∃ fs, (r.1, fs) ∈ ftab ∧ KindsOk fs r.2) ∧ (∀ p ∈ r.2, (wordsP p).length ≤ 100) ∧ (kids r.2).length ≤ 1000 ∧ ∀ l ∈ kids r.2, l.length ≤ 1000 ∧ ∀ r' ∈ l, Shape d r'
theorem ftab_four : ∀ e ∈ ftab, e.2.length ≤ 4 := by decide +kernel
theorem Shape.parts {d : Nat} {r : Row (d + 1)} (h : Shape (d + 1) r) : r.2.length ≤ 4 := by
  obtain ⟨⟨fs, hf, hk⟩, _⟩ := h
  rw [← hk.len]
  exact ftab_four _ hf
def spCopied (K : PySem.W.Frag) : Nat → Sp
  | 0 => fun _ _ _ _ => False
  | d + 1 => fun vs H Q _ => ∃ (a : Addr) (H0 : Hp) (rows : List (Row d)) (xs : List V), vs = [.ref a] ∧ H0 a = some (.lst xs) ∧ Same H0 H ∧ All2 (RowAt K H0 d) rows xs ∧ rows.length ≤ 1000 ∧ (∀ r ∈ rows, Shape d r) ∧
    ∀ (H' : Hp) (D : Addr) (ys : List V), Same H H' → H D = none → H' D = some (.lst ys) → All2 (RowAt K (res (Nw H0 H) H') d) rows ys → Q (.ref D) H'
section
variable {P : Program} {w : World} {K : PySem.W.Frag} {mg : Str → Option Value} {base : Heap}
theorem ok_copied {k0 d : Nat} {f : Addr} {fd : FuncData} (F : FnP K "copied" "copied" s_copied f fd) (T : Tx w K mg) (h1 : 1 ≤ k0) (G_lists_of : Def P w K mg base CX0 1 "lists_of" p_lists_of (spListsOf K)) (G_with_lists : Def P w K mg base CX0 1 "with_lists" p_with_lists (spWith K))
    (G_copied : Def P w K mg base CX0 k0 "copied" p_copied (spCopied K d)) : FnOk P w K mg base CX0 (k0 + 1) f fd p_copied (spCopied K (d + 1)) := by
  refine F.ok sc_copied (fun vs H Q E h => ?_) (fun cdv A outer s H vs Q E hr h => ?_)
  · obtain ⟨a, _, _, _, rfl, _⟩ := h
    rfl
  · obtain ⟨a, H0, rows, xs, rfl, ha, S0, hp, few, sh, k⟩ := h
    have hr1 : Room 1 _ := hr.mono h1
    refine ⟨_, PSs.nox (pss_one (ps_ret (pe_lc (own := [("row", 1)]) (g := (gName 1)) (by rfl) sc_copied.nd (pi_list (pv 0)) (blkOk_by (N := n_copied) (sc := defScope s_copied) (by decide +kernel)) (fun _ _ _ _ _ => (pg_name (i := 1) sc_copied.nd rfl (.inl rfl))) (fun _ _ _ _ _ => pts_nil) (fun _ _ _ _ _ => (pe_fn G_with_lists (hr.mono (by omega)) (by rfl) pass0 (pa_cons (pv 1) (pa_cons (pe_lc (own := [("inner", 2)]) (g := (gName 2)) (by rfl) sc_copied.nd (show PI _ _ _ (iList K _) from pi_list (pe_fn G_lists_of (hr.mono (by omega)) (by rfl) pass0 (pa_cons (pv 1) pa_nil))) (blkOk_any (N := n_copied) (by decide +kernel)) (fun _ _ _ _ _ => (pg_name (i := 2) sc_copied.nd rfl (.inl rfl))) (fun _ _ _ _ _ => pts_nil) (fun _ _ _ _ _ => (pe_fn G_copied (hr.mono (by omega)) (by rfl) pass0 (pa_cons (pv 2) pa_nil)))) pa_nil))))))), ?_⟩
    refine ⟨_, rfl, a, rfl, ⟨_, SqL.of (S0 _ _ ha)⟩, fun D nD => ?_⟩
    have aD : a ≠ D := ne_of_none (S0 _ _ ha) nD
    have H0D : H0 D = none := S0.free nD
    refine lc_it (walk_list (K := K) (a := a) (xs := xs)) (fun i H' => Kp (· = D) (upd H D (.lst [])) H' ∧ ∃ ys, H' D = some (.lst ys) ∧ ys.length = i ∧ All2 (RowAt K (res (fun b => Nw H0 H b ∧ b ≠ D) H') d) (rows.take i) ys) ⟨Kp.refl _, [], upd_same, rfl, .nil⟩
      (fun i H' _ p => SqL.of (p.1 _ _ (by rw [upd_ne aD]; exact S0 _ _ ha) aD)) (fun i x H1 H2 hi p y => ?_) (fun H1 p => ?_)
    · obtain ⟨rfl, hx⟩ := y
      obtain ⟨kp, ys, hD, ly, hys⟩ := p
      obtain ⟨r, hrow, hra⟩ := hp.other hx
      have shr := sh r (List.mem_of_getElem? hrow)
      have SH : Same H H2 := fun b o e => kp b o (by rw [upd_ne (ne_of_none e nD)]; exact e) (ne_of_none e nD)
      refine ⟨rfl, ?_⟩
      refine tYes_ ?_
      refine iteT ?_
      cases d with
      | zero => exact nomatch r
      | succ e =>
        obtain ⟨⟨fs, hf, hk⟩, wl, fk, sk⟩ := id shr
        have S02 : Same H0 H2 := S0.trans SH
        refine ⟨_, rfl, _, rfl, x, H0, e, r, fs, rfl, hra, S02, hf, hk, fk, fun H3 L ls S3 nL hL hls => ?_⟩
        refine ⟨L, rfl, ⟨_, SqL.of hL⟩, fun D2 nD2 => ?_⟩
        have LD2 : L ≠ D2 := ne_of_none hL nD2
        have S03 := S02.trans S3
        have H0D2 : H0 D2 = none := S03.free nD2
        have H2D2 : H2 D2 = none := S3.free nD2
        refine lc_it (walk_list (K := K) (a := L) (xs := ls)) (fun j H' => Kp (· = D2) (upd H3 D2 (.lst [])) H' ∧ ∃ zs, H' D2 = some (.lst zs) ∧ zs.length = j ∧ All2 (LstAt (res (fun b => Nw H0 H2 b ∧ b ≠ D2) H') (RowAt K (res (fun b => Nw H0 H2 b ∧ b ≠ D2) H') e)) ((kids r.2).take j) zs)
          ⟨Kp.refl _, [], upd_same, rfl, .nil⟩ (fun j H' _ q => SqL.of (q.1 _ _ (by rw [upd_ne LD2]; exact hL) LD2)) (fun j v H4 H5 hj q y => ?_) (fun H4 q => ?_)
        · obtain ⟨rfl, hv⟩ := y
          obtain ⟨kq, zs, hD2, lz, hzs⟩ := q
          obtain ⟨l, hl, c, cs, rfl, hc, hcs⟩ := hls.other hv
          obtain ⟨fl, sl⟩ := sk l (List.mem_of_getElem? hl)
          have SH3 : Same H3 H5 := fun b o e => kq b o (by rw [upd_ne (ne_of_none e nD2)]; exact e) (ne_of_none e nD2)
          refine ⟨rfl, ?_⟩
          refine tYes_ ?_
          refine iteT ?_
          refine ⟨_, rfl, c, H0, l, cs, rfl, hc, S03.trans SH3, hcs, fl, sl, fun H6 D3 cs' S6 nD3 hD3 hcs' => ?_⟩
          have D32 : D3 ≠ D2 := fun z => by rw [z, hD2] at nD3; cases nD3
          have H2D3 : H2 D3 = none := (S3.trans SH3).free nD3
          refine ⟨zs, S6 _ _ hD2, small1000 (by have := hls.len; omega), fun b o hb nb => ?_, _, upd_same, by simp [lz], ?_⟩
          · rw [upd_ne nb]
            exact S6 _ _ (kq b o hb nb)
          · have SR : ∀ o, Same (res (fun b => Nw H0 H2 b ∧ b ≠ D2) H5) (res (fun b => Nw H0 H2 b ∧ b ≠ D2) (upd H6 D2 o)) := fun o => same_res fun b u c e => ⟨c, by rw [upd_ne c.2]; exact S6 _ _ e⟩
            have SN : ∀ o, Same (res (Nw H0 H5) H6) (res (fun b => Nw H0 H2 b ∧ b ≠ D2) (upd H6 D2 o)) := fun o => same_res fun b u c e => by
              have nb : b ≠ D2 := fun z => by
                subst z
                rcases c with c | c
                · exact c H0D2
                · rw [hD2] at c; cases c
              exact ⟨⟨c.imp id fun z => (S3.trans SH3).free z, nb⟩, by rw [upd_ne nb]; exact e⟩
            rw [take_more hl]
            refine All2.app (hzs.imp fun x y _ q => LstAt.mono (SR _) (fun r v q => RowAt.mono (SR _) q) q) (All2.one ⟨D3, cs', rfl, ?_, hcs'.imp fun x y _ q => RowAt.mono (SN _) q⟩)
            rw [res_of (S := fun b => Nw H0 H2 b ∧ b ≠ D2) ⟨.inr H2D3, D32⟩, upd_ne D32]
            exact hD3
        · obtain ⟨kq, zs, hD2, lz, hzs⟩ := q
          rw [← hls.len, List.take_length] at hzs
          have SH3 : Same H3 H4 := fun b o e => kq b o (by rw [upd_ne (ne_of_none e nD2)]; exact e) (ne_of_none e nD2)
          have SX : Same H0 (res (fun b => Nw H0 H2 b ∧ b ≠ D2) H4) := fun b o e => by
            rw [res_of (S := fun b => Nw H0 H2 b ∧ b ≠ D2) ⟨.inl (by rw [e]; simp), fun z => by rw [z, H0D2] at e; cases e⟩]
            exact (S03.trans SH3) _ _ e
          refine ⟨x, D2, res (fun b => Nw H0 H2 b ∧ b ≠ D2) H4, e, r, fs, zs, rfl, RowAt.mono SX hra, res_same, hf, hk, by have := shr.parts; omega, fk, hD2, hzs, fun H6 t S6 hrow' => ?_⟩
          have S26 : Same H2 H6 := (S3.trans SH3).trans S6
          refine ⟨ys, S26 _ _ hD, small1000 (by have := hp.len; omega), fun b o hb nb => ?_, _, upd_same, by simp [ly], ?_⟩
          · rw [upd_ne nb]
            exact S26 _ _ (kp b o hb nb)
          · have SR : ∀ o, Same (res (fun b => Nw H0 H b ∧ b ≠ D) H2) (res (fun b => Nw H0 H b ∧ b ≠ D) (upd H6 D o)) := fun o => same_res fun b u c e => ⟨c, by rw [upd_ne c.2]; exact S26 _ _ e⟩
            have SN : ∀ o, Same (res (Nw (res (fun b => Nw H0 H2 b ∧ b ≠ D2) H4) H4) H6) (res (fun b => Nw H0 H b ∧ b ≠ D) (upd H6 D o)) := fun o => same_res fun b u c e => by
              have nw : Nw H0 H2 b := by
                rcases c with c | c
                · cases e5 : res (fun b => Nw H0 H2 b ∧ b ≠ D2) H4 b with
                  | none => exact absurd e5 c
                  | some u => exact (res_some e5).1.1
                · exact .inr ((S3.trans SH3).free c)
              have nb : b ≠ D := fun z => by
                subst z
                rcases nw with c | c
                · exact c H0D
                · rw [hD] at c; cases c
              exact ⟨⟨nw.imp id fun z => SH.free z, nb⟩, by rw [upd_ne nb]; exact e⟩
            rw [take_more hrow]
            exact All2.app (hys.imp fun x y _ q => RowAt.mono (SR _) q) (All2.one (RowAt.mono (SN _) hrow'))
    · obtain ⟨kp, ys, hD, ly, hys⟩ := p
      rw [← hp.len, List.take_length] at hys
      have SH : Same H H1 := fun b o e => kp b o (by rw [upd_ne (ne_of_none e nD)]; exact e) (ne_of_none e nD)
      refine k H1 D ys SH nD hD (hys.imp fun x y _ q => RowAt.mono (same_res fun b u c e => ⟨c.1, e⟩) q)
end
end OR

set_option Elab.async false
set_option maxRecDepth 100000
set_option maxHeartbeats 4000000
set_option linter.all false
namespace OR
open PySem PySem.Spec PyProof.Rows L2 TS2
/-- how many rows -/
def rsz : (d : Nat) → Row d → Nat
  | 0, r => nomatch r
  | d + 1, r => 1 + (((kids r.2).map fun l => (l.map (rsz d)).sum).sum)
def lsz (d : Nat) (rows : List (Row d)) : Nat := (rows.map (rsz d)).sum
def spSize (K : PySem.W.Frag) : Nat → Sp
  | 0 => fun _ _ _ _ => False
  | d + 1 => fun vs H Q _ => ∃ (v : V) (H0 : Hp) (r : Row d), vs = [v] ∧ Same H0 H ∧ RowAt K H0 d r v ∧ Shape d r ∧ rsz d r ≤ 3000 ∧ ∀ H', Same H H' → Q (.int (rsz d r)) H'
theorem sum_int (ns : List Nat) : (ns.map fun n : Nat => (n : Int)).sum = (ns.sum : Nat) := by
  induction ns with
  | nil => rfl
  | cons n ns ih => simp [ih]
/-- the numbers of the rows in the first lists -/
def szs (d : Nat) (ls : List (List (Row d))) : List Nat := (ls.map fun l => l.map (rsz d)).flatten
theorem szs_sum (d : Nat) (ls : List (List (Row d))) : (szs d ls).sum = (ls.map fun l => (l.map (rsz d)).sum).sum := by
  unfold szs
  induction ls with
  | nil => rfl
  | cons l ls ih => simp [ih]
theorem szs_snoc (d : Nat) (ls : List (List (Row d))) (l : List (Row d)) : szs d (ls ++ [l]) = szs d ls ++ l.map (rsz d) := by
  unfold szs
  rw [List.map_append, List.flatten_append]
  simp
theorem rsz_pos {d : Nat} (r : Row d) : 1 ≤ rsz d r := by
  cases d with
  | zero => exact nomatch r
  | succ e => simp [rsz]
theorem len_le_sum (ns : List Nat) (h : ∀ n ∈ ns, 1 ≤ n) : ns.length ≤ ns.sum := by
  induction ns with
  | nil => simp
  | cons n ns ih =>
    have h1 := h n List.mem_cons_self
    have h2 := ih fun m hm => h m (List.mem_cons_of_mem _ hm)
    simp; omega
theorem szs_pos {d : Nat} {ls : List (List (Row d))} : ∀ n ∈ szs d ls, 1 ≤ n := fun n hn => by
  unfold szs at hn
  rw [List.mem_flatten] at hn
  obtain ⟨l, hl, hn⟩ := hn
  rw [List.mem_map] at hl
  obtain ⟨l', _, rfl⟩ := hl
  rw [List.mem_map] at hn
  obtain ⟨r, _, rfl⟩ := hn
  exact rsz_pos r
theorem szs_take_le {d : Nat} (ls : List (List (Row d))) (j : Nat) : (szs d (ls.take j)).length ≤ (szs d ls).length := by
  conv => rhs; rw [← List.take_append_drop j ls]
  unfold szs
  rw [List.map_append, List.flatten_append, List.length_append]
  omega
theorem mem_le_sum {ns : List Nat} {n : Nat} (h : n ∈ ns) : n ≤ ns.sum := by
  induction ns with
  | nil => simp at h
  | cons m ns ih =>
    rcases List.mem_cons.mp h with rfl | h
    · simp
    · have := ih h
      simp; omega
section
variable {P : Program} {w : World} {K : PySem.W.Frag} {mg : Str → Option Value} {base : Heap}
theorem ok_size_of {k0 d : Nat} {f : Addr} {fd : FuncData} (F : FnP K "size_of" "size_of" s_size_of f fd) (T : Tx w K mg) (h1 : 1 ≤ k0) (G_lists_of : Def P w K mg base CX0 1 "lists_of" p_lists_of (spListsOf K))
    (G_size_of : Def P w K mg base CX0 k0 "size_of" p_size_of (spSize K d)) : FnOk P w K mg base CX0 (k0 + 1) f fd p_size_of (spSize K (d + 1)) := by
  refine F.ok sc_size_of (fun vs H Q E h => ?_) (fun cdv A outer s H vs Q E hr h => ?_)
  · obtain ⟨v, _, _, rfl, _⟩ := h
    rfl
  · obtain ⟨v, H0, r, rfl, S0, hra, sh, few, k⟩ := h
    refine ⟨_, PSs.nox (pss_one (ps_ret (pe_op op_add pe_int (pe_callB (cr_sum rfl) (by rfl) T.b_sum (by decide +kernel) (pa_cons (pe_lc2 (own := [("rows", 1), ("inner", 2)]) (g := (gName 1)) (g1 := (gName 2)) (wi1 := iList K (tVar 1)) (vs1 := [2]) rfl sc_size_of.nd (pi_list (pe_fn G_lists_of (hr.mono (by omega)) (by rfl) pass0 (pa_cons (pv 0) pa_nil))) (blkOk_by (N := n_size_of) (sc := defScope s_size_of) (by decide +kernel)) (by decide) (fun _ _ _ _ _ => (pg_name (i := 1) sc_size_of.nd rfl (.inl rfl))) (fun _ _ _ _ _ => pts_nil) (fun _ _ _ _ _ => (pi_list (pv 1))) (fun _ _ _ _ _ => (pg_name (i := 2) sc_size_of.nd rfl (.inl rfl))) (fun _ _ _ _ _ => pts_nil) (fun _ _ _ _ _ => (pe_fn G_size_of (hr.mono (by omega)) (by rfl) pass0 (pa_cons (pv 2) pa_nil)))) pa_nil))))), ?_⟩
    cases d with
    | zero => exact nomatch r
    | succ e =>
      obtain ⟨⟨fs, hf, hk⟩, wl, fk, sk⟩ := id sh
      have es : rsz (e + 1) r = 1 + (szs e (kids r.2)).sum := by rw [szs_sum]; rfl
      have all : (szs e (kids r.2)).length ≤ 3000 := by have := len_le_sum _ (szs_pos (ls := kids r.2)); omega
      refine ⟨_, rfl, v, H0, e, r, fs, rfl, hra, S0, hf, hk, fk, fun H1 L ls S1 nL hL hls => ?_⟩
      refine ⟨L, rfl, ⟨_, SqL.of hL⟩, fun D nD => ?_⟩
      have LD : L ≠ D := ne_of_none hL nD
      have S01 := S0.trans S1
      have keep : ∀ {H' : Hp}, Kp (· = D) (upd H1 D (.lst [])) H' → Same H1 H' := fun k b o e => k b o (by rw [upd_ne (ne_of_none e nD)]; exact e) (ne_of_none e nD)
      refine out_it (walk_list (K := K) (a := L) (xs := ls)) (fun j H' => Kp (· = D) (upd H1 D (.lst [])) H' ∧ H' D = some (.lst (((szs e ((kids r.2).take j)).map fun n : Nat => V.int n)))) ⟨Kp.refl _, by rw [upd_same]; rfl⟩
        (fun j H' _ q => SqL.of (q.1 _ _ (by rw [upd_ne LD]; exact hL) LD)) (fun j x H2 H3 hj q y => ?_) (fun H2 q => ?_)
      · obtain ⟨rfl, hv⟩ := y
        obtain ⟨kq, hD⟩ := q
        obtain ⟨l, hl, c, cs, rfl, hc, hcs⟩ := hls.other hv
        obtain ⟨fl, sl⟩ := sk l (List.mem_of_getElem? hl)
        have tl := szs_take_le (kids r.2) (j + 1)
        rw [take_more hl, szs_snoc, List.length_append] at tl
        refine ⟨rfl, ?_⟩
        refine tYes_ ?_
        refine iteT ?_
        refine ⟨_, rfl, c, rfl, ⟨_, SqL.of ((S01.trans (keep kq)) _ _ hc)⟩, ?_⟩
        refine out_it (walk_list (K := K) (a := c) (xs := cs)) (fun i H' => Kp (· = D) (upd H1 D (.lst [])) H' ∧ H' D = some (.lst ((szs e ((kids r.2).take j) ++ (l.take i).map (rsz e)).map fun n : Nat => V.int n))) ⟨kq, by rw [hD]; simp⟩
          (fun i H' _ q => SqL.of ((S01.trans (keep q.1)) _ _ hc)) (fun i x H4 H5 hi q y => ?_) (fun H4 q => ?_)
        · obtain ⟨rfl, hx⟩ := y
          obtain ⟨kp, hD4⟩ := q
          obtain ⟨r', hr', hra'⟩ := hcs.other hx
          have le1 : rsz e r' ≤ 3000 := by
            have m : rsz e r' ∈ szs e (kids r.2) := by
              unfold szs
              rw [List.mem_flatten]
              exact ⟨_, List.mem_map.mpr ⟨l, List.mem_of_getElem? hl, rfl⟩, List.mem_map.mpr ⟨r', List.mem_of_getElem? hr', rfl⟩⟩
            have := mem_le_sum m
            omega
          refine ⟨rfl, ?_⟩
          refine tYes_ ?_
          refine iteT ?_
          refine ⟨_, rfl, x, H0, r', rfl, S01.trans (keep kp), hra', sl r' (List.mem_of_getElem? hr'), le1, fun H6 S6 => ?_⟩
          refine ⟨_, S6 _ _ hD4, Nat.lt_of_le_of_lt (m := 3000) ?_ (by decide), fun b o hb nb => ?_, ?_⟩
          · have : (l.take i).length ≤ l.length := by rw [List.length_take]; omega
            rw [List.length_map, List.length_append, List.length_map]
            rw [List.length_map] at tl
            omega
          · rw [upd_ne nb]
            exact S6 _ _ (kp b o hb nb)
          · rw [upd_same, take_more hr', List.map_append, List.map_append]
            simp
        · obtain ⟨kp, hD4⟩ := q
          refine ⟨kp, ?_⟩
          rw [hD4, take_more hl, szs_snoc, ← hcs.len, List.take_length]
      · obtain ⟨kq, hD⟩ := q
        rw [← hls.len, List.take_length] at hD
        refine ⟨D, (szs e (kids r.2)).map fun n : Nat => (n : Int), rfl, SqL.of (by rw [hD, List.map_map]; rfl), ?_⟩
        refine ⟨_, _, rfl, rfl, ?_⟩
        have ee : (1 : Int) + ((szs e (kids r.2)).map fun n : Nat => (n : Int)).sum = (rsz (e + 1) r : Nat) := by rw [sum_int, es]; simp
        show Q (.int (1 + ((szs e (kids r.2)).map fun n : Nat => (n : Int)).sum)) H2
        rw [ee]
        exact k H2 (S1.trans (keep kq))
end
end OR

set_option Elab.async false
set_option maxRecDepth 100000
set_option maxHeartbeats 4000000
set_option linter.all false
namespace OR
open PySem PySem.Spec PyProof.Rows L2 TS2
def hasK (kvs : List (Key × V)) (z : Str) : Bool := (valV kvs (Sum.inr z : Key)).isSome
def onWord {R : Type} (g : Str → Bool) : Pt R → Bool
  | .word z => isWord z && g z
  | _ => false
def onWords {R : Type} (g : List Str → Bool) : Pt R → Bool
  | .words l => g l
  | _ => false
def isRows {R : Type} : Pt R → Bool
  | .rows _ => true
  | _ => false
def onSides {R : Type} : Pt R → Bool
  | .sides ls => decide (ls.length = 2 ∨ ls.length = 3)
  | _ => false
/-- a part fits its form; ka, ks: the tables of asks and of signals -/
def fit {R : Type} (ka ks : List (Key × V)) (f : Str) (p : Pt R) : Bool :=
  if f = "ask" then onWord (hasK ka) p
  else if f = "signal" then onWord (hasK ks) p
  else if f = "slot" then onWord (fun z => decide (z ≠ "in")) p
  else if f = "labels" ∨ f = "words" then onWords (areW 3) p
  else if f = "rows" then isRows p
  else if f = "sides" then onSides p
  else onWord (fun _ => true) p
/-- what is asked of a part so that the code's answer about it is known -/
def Nice {R : Type} (f : Str) (p : Pt R) : Prop := (∀ z ∈ wordsP p, z.length ≤ 1000) ∧ (wordsP p).length ≤ 100 ∧ (kidsP p).length ≤ 100 ∧ ((f = "labels" ∨ f = "words") → ∀ ls, p ≠ .sides ls) ∧ (f = "sides" → ∀ l, p ≠ .words l)
def hasForm {R : Type} (ed : Bool) (ka ks : List (Key × V)) (w : Str) (fs : List Str) (ps : List (Pt R)) : Bool := !(decide (w = "edit") && !ed) && (decide (ps.length = fs.length) && ((fs.zip ps).map fun x => fit ka ks x.1 x.2).all id)
def mayS (w : Str) (n : Nat) (il : Bool) (k : Nat) : Bool := if w = "leave" then il else (decide ((n + 1) / 2 < 5) || decide (k = 0))
/-- the row check: edits seen, gates seen -/
abbrev Sn : Type := List (Key × V) × List (Key × V)
def firstW {R : Type} : List (Pt R) → Str
  | .word z :: _ => z
  | _ => ""
def isNew {R : Type} (fs : List Str) (ps : List (Pt R)) (st : Sn) : Bool × Sn :=
  if ("edit" : Str) ∈ fs then (!hasK st.1 (firstW ps) && !hasK st.2 (firstW ps), (putK st.1 (Sum.inr (firstW ps)) (.bl true), st.2))
  else if ("gate" : Str) ∈ fs then (!hasK st.1 (firstW ps), (st.1, putK st.2 (Sum.inr (firstW ps)) (.bl true)))
  else (true, st)
def rcF (a s : Addr) (b : Bool) (e g : Addr) : List (Str × V) := [("ask_table", .ref a), ("signal_table", .ref s), ("with_edits", .bl b), ("seen_edits", .ref e), ("seen_gates", .ref g)]
/-- a row check at p: its tables, what it has seen -/
structure RC (K : PySem.W.Frag) (H : Hp) (p : Addr) (ed : Bool) (ka ks : List (Key × V)) (st : Sn) (a s e g dx : Addr) : Prop where
  ob : H p = some (.ins (He.ga K "RowCheck") dx (rcF a s ed e g))
  ha : H a = some (.dK ka)
  hs : H s = some (.dK ks)
  he : H e = some (.dK st.1)
  hg : H g = some (.dK st.2)
  eg : e ≠ g
  ea : a ≠ e ∧ a ≠ g ∧ s ≠ e ∧ s ≠ g
theorem RC.same {K : PySem.W.Frag} {H H' : Hp} {p : Addr} {ed : Bool} {ka ks : List (Key × V)} {st : Sn} {a s e g dx : Addr} (c : RC K H p ed ka ks st a s e g dx) (S : Same H H') : RC K H' p ed ka ks st a s e g dx :=
  ⟨S _ _ c.ob, S _ _ c.ha, S _ _ c.hs, S _ _ c.he, S _ _ c.hg, c.eg, c.ea⟩
def spSides (K : PySem.W.Frag) : Sp := fun vs H Q _ => ∃ v, vs = [v] ∧ ((∃ a ws, v = .ref a ∧ SqT K H a ws ∧ ws.length ≤ 1000 ∧ (∀ x ∈ ws, ∃ c cs, x = .ref c ∧ H c = some (.lst cs)) ∧ ∀ H', Same H H' → Q (.bl (decide (ws.length = 2 ∨ ws.length = 3))) H') ∨ (NotA K H v "tuple" ∧ Q (.bl false) H))
def spMay (K : PySem.W.Frag) : Sp := fun vs H Q _ => ∃ (v : V) (t : Addr) (il : Bool) (H0 : Hp) (d : Nat) (r : Row (d + 1)) (fs : List Str) (ns : List V), vs = [v, .ref t, .bl il] ∧ SqT K H t ns ∧ ns.length ≤ 100 ∧ RowAt K H0 (d + 1) r v ∧ Same H0 H ∧ (r.1, fs) ∈ ftab ∧ KindsOk fs r.2 ∧ (kids r.2).length ≤ 1000 ∧
  ∀ H', Same H H' → Q (.bl (mayS r.1 ns.length il (kids r.2).length)) H'
def spFits (K : PySem.W.Frag) : Sp := fun vs H Q _ => ∃ (p : Addr) (f : Str) (v : V) (d : Nat) (H0 : Hp) (pt : Pt (Row d)) (ed : Bool) (ka ks : List (Key × V)) (st : Sn) (a s e g dx : Addr), vs = [.ref p, .str f, v] ∧ RC K H p ed ka ks st a s e g dx ∧ PtAt K H0 (RowAt K H0 d) pt v ∧ Same H0 H ∧ Nice f pt ∧
  ∀ H', Same H H' → Q (.bl (fit ka ks f pt)) H'
def spHasForm (K : PySem.W.Frag) : Sp := fun vs H Q _ => ∃ (p : Addr) (v : V) (d : Nat) (H0 : Hp) (r : Row (d + 1)) (fs : List Str) (ed : Bool) (ka ks : List (Key × V)) (st : Sn) (a s e g dx : Addr), vs = [.ref p, v] ∧ RC K H p ed ka ks st a s e g dx ∧ RowAt K H0 (d + 1) r v ∧ Same H0 H ∧
  (r.1, fs) ∈ ftab ∧ (∀ x ∈ fs.zip r.2, Nice x.1 x.2) ∧ r.2.length ≤ 1000 ∧ ∀ H', Same H H' → Q (.bl (hasForm ed ka ks r.1 fs r.2)) H'
def spIsNew (K : PySem.W.Frag) : Sp := fun vs H Q _ => ∃ (p : Addr) (v : V) (d : Nat) (H0 : Hp) (r : Row (d + 1)) (fs : List Str) (ed : Bool) (ka ks : List (Key × V)) (st : Sn) (a s e g dx : Addr), vs = [.ref p, v] ∧ RC K H p ed ka ks st a s e g dx ∧ RowAt K H0 (d + 1) r v ∧ Same H0 H ∧
  H0 e = none ∧ H0 g = none ∧ (r.1, fs) ∈ ftab ∧ KindsOk fs r.2 ∧ st.1.length ≤ 5000 ∧ st.2.length ≤ 5000 ∧ ∀ H', Kp (fun b => b = e ∨ b = g) H H' → RC K H' p ed ka ks (isNew fs r.2 st).2 a s e g dx → Q (.bl (isNew fs r.2 st).1) H'
theorem PtAt.ty {K : PySem.W.Frag} {R : Type} {H : Hp} {RA : R → V → Prop} {p : Pt R} {v : V} (h : PtAt K H RA p v) : (∃ z, p = .word z ∧ v = .str z) ∨ (∃ ty, TyX K H v ty ∧ PySem.W.kitOne K ty (.type "str") = some false) := by
  cases p with
  | word z => exact .inl ⟨z, rfl, h⟩
  | words l =>
    obtain ⟨a, rfl, ha⟩ := h
    exact .inr ⟨_, tyT ha, kit_ty (by decide +kernel)⟩
  | rows l =>
    obtain ⟨a, xs, rfl, ha, _⟩ := h
    exact .inr ⟨_, tyL (SqL.of ha), kit_ty (by decide +kernel)⟩
  | sides ls =>
    obtain ⟨a, vs, rfl, ha, _⟩ := h
    exact .inr ⟨_, tyT ha, kit_ty (by decide +kernel)⟩
section
variable {P : Program} {w : World} {K : PySem.W.Frag} {mg : Str → Option Value} {base : Heap}
theorem ok_are_sides {f : Addr} {fd : FuncData} (F : FnP K "are_sides" "are_sides" s_are_sides f fd) (T : Tx w K mg) : FnOk P w K mg base CX0 1 f fd p_are_sides (spSides K) := by
  refine F.ok sc_are_sides (fun vs H Q E h => ?_) (fun cdv A outer s H vs Q E hr h => ?_)
  · obtain ⟨v, rfl, _⟩ := h
    rfl
  · obtain ⟨v, rfl, h⟩ := h
    refine ⟨_, PSs.nox (pss_cons (ps_if (PW.pt (pw_or (pt_not (pt_val (pe_callB call_isi (by rfl) T.b_isinstance (by decide +kernel) (pa_cons (pv 0) (pa_cons (pe_bltn (v := .ty "tuple") (u := .type "tuple") (by rfl) T.b_tuple (by decide +kernel) rfl) pa_nil))))) (pw_or1 (pt_cmpR op_notIn_seq (pe_callB call_len_seq (by rfl) T.b_len PySem.boot_len (pa_cons (pv 0) pa_nil)) (pe_tup (pa_cons pe_int (pa_cons pe_int pa_nil))) (by rfl))))) (pss_one (ps_ret pe_bl)) pss_nil)
      (pss_one (ps_ret (pe_callB (cr_all rfl) (by rfl) T.b_all (by decide +kernel) (pa_cons (pe_lc (own := [("side", 1)]) (g := (gName 1)) (by rfl) sc_are_sides.nd (pi_tup (pv 0)) (blkOk_by (N := n_are_sides) (sc := defScope s_are_sides) (by decide +kernel)) (fun _ _ _ _ _ => (pg_name (i := 1) sc_are_sides.nd rfl (.inl rfl))) (fun _ _ _ _ _ => pts_nil) (fun _ _ _ _ _ => (pe_callB (show CallR _ (.builtin "isinstance") (rIsi K) from call_isi) (by rfl) T.b_isinstance (by decide +kernel) (pa_cons (pv 1) (pa_cons (pe_bltn (v := .ty "list") (u := .type "list") (by rfl) T.b_list (by decide +kernel) rfl) pa_nil))))) pa_nil))))), ?_⟩
    rcases h with ⟨a, ws, rfl, ha, few, hl, k⟩ | ⟨⟨ty, n1, n2⟩, k⟩
    rotate_left
    · refine ⟨_, rfl, v, .ty "tuple", _, _, false, rfl, .ty _, n1, n2, _, rfl, ?_⟩
      refine iteT ?_
      refine iteT ?_
      exact k
    refine ⟨_, rfl, .ref a, .ty "tuple", _, _, true, rfl, .ty _, tyT ha, kit_ty (by decide +kernel), _, rfl, ?_⟩
    refine iteF ?_
    refine ⟨_, rfl, a, _, rfl, .inr ha, by show 2 ≤ sizeLine; decide, fun t nt => ?_⟩
    refine ⟨t, _, rfl, .inr (SqT.of upd_same), rfl, rfl, _, rfl, ?_⟩
    have S1 : Same H (upd H t (.tup [.int 2, .int 3])) := Same.new nt
    have e1 : (if true = true then !inV (.int ws.length) [.int 2, .int 3] else inV (.int ws.length) [.int 2, .int 3]) = !decide (ws.length = 2 ∨ ws.length = 3) := by
      rw [if_pos rfl]
      congr 1
      have e2 : inV (.int ws.length) [.int 2, .int 3] = ((2 : Int) == (ws.length : Int) || ((3 : Int) == (ws.length : Int) || false)) := rfl
      rw [e2]
      by_cases c : ws.length = 2
      · simp [c]
      · by_cases c' : ws.length = 3
        · simp [c']
        · have h1 : ((2 : Int) == (ws.length : Int)) = false := by simp; omega
          have h2 : ((3 : Int) == (ws.length : Int)) = false := by simp; omega
          simp [h1, h2, c, c']
    generalize upd H t (.tup [.int 2, .int 3]) = H1 at S1 ⊢
    rw [e1]
    cases c : decide (ws.length = 2 ∨ ws.length = 3) with
    | false =>
      refine iteT ?_
      rw [c] at k
      exact k H1 S1
    | true =>
      refine iteF ?_
      rw [c] at k
      refine ⟨_, rfl, a, rfl, ⟨_, sameT S1 ha⟩, fun D nD => ?_⟩
      refine lc_it (walk_tup (K := K) (a := a) (xs := ws)) (fun i H' => Same H1 H' ∧ H' D = some (.lst ((List.replicate i true).map V.bl))) ⟨Same.new nD, upd_same⟩ (fun i H' _ q => sameT (S1.trans q.1) ha) (fun i x H2 H3 hi p y => ?_) (fun H2 p => ?_)
      · obtain ⟨rfl, hx⟩ := y
        obtain ⟨S, hD⟩ := p
        obtain ⟨cc, cs, rfl, hc⟩ := hl x (List.mem_of_getElem? hx)
        refine ⟨rfl, ?_⟩
        refine tYes_ ?_
        refine iteT ?_
        refine ⟨_, rfl, .ref cc, .ty "list", _, _, true, rfl, .ty _, tyL (SqL.of (S _ _ (S1 _ _ hc))), kit_ty (by decide +kernel), ?_⟩
        refine ⟨_, hD, small1000 (by rw [List.length_map, List.length_replicate]; omega), fun b o hb => ?_, ?_⟩
        · rw [upd_ne (ne_of_none hb nD)]
          exact S _ _ hb
        · rw [upd_same, List.replicate_succ', List.map_append]
          rfl
      · obtain ⟨S, hD⟩ := p
        refine ⟨D, List.replicate ws.length true, rfl, SqL.of hD, ?_⟩
        have e3 : (List.replicate ws.length true).all id = true := by simp
        rw [e3]
        exact k _ (S1.trans S)
theorem ok_may_stand {f : Addr} {fd : FuncData} (F : FnP K "may_stand" "may_stand" s_may_stand f fd) (T : Tx w K mg) (G_lists_of : Def P w K mg base CX0 1 "lists_of" p_lists_of (spListsOf K)) : FnOk P w K mg base CX0 2 f fd p_may_stand (spMay K) := by
  refine F.ok sc_may_stand (fun vs H Q E h => ?_) (fun cdv A outer s H vs Q E hr h => ?_)
  · obtain ⟨v, t, il, _, _, _, _, _, rfl, _⟩ := h
    rfl
  · obtain ⟨v, t, il, H0, d, r, fs, ns, rfl, ht, few, hra, S0, hf, hk, fk, k⟩ := h
    obtain ⟨a, vs, rfl, ha, hp⟩ := id hra
    obtain ⟨t5, mDEEPEST⟩ := T.m_DEEPEST
    refine ⟨_, PSs.nox (pss_cons (ps_if (pt_cmpR op_eq (pe_ix ix_tup (pv 0) pe_int (fun _ _ => rfl)) pe_str (nomark _)) (pss_one (ps_ret (pv 2))) pss_nil)
      (pss_cons (ps_set (i := 3) sc_may_stand.nd rfl (.inl rfl) (pe_op op_fdivN (pe_op op_add (pe_callB call_len_seq (by rfl) T.b_len PySem.boot_len (pa_cons (pv 1) pa_nil)) pe_int) pe_int))
      (pss_one (ps_ret (pe_or (pe_cmpR op_lt (pv 3) (pe_glob (by rfl) mDEEPEST (show RelV (.int (5)) _ from ⟨_, rfl⟩)) (nomark _)) (pe_one (pe_cmpR op_eq (pe_callB call_len_seq (by rfl) T.b_len PySem.boot_len (pa_cons (pe_fn G_lists_of (hr.mono (by decide)) (by rfl) pass0 (pa_cons (pv 0) pa_nil)) pa_nil)) pe_int (nomark _)))))))), ?_⟩
    refine ⟨_, rfl, a, _, _, .str r.1, rfl, rfl, sameT S0 ha, at0, rfl, _, rfl, ?_⟩
    by_cases c : r.1 = "leave"
    · refine iteT' (decide_eq_true (by rw [c])) ?_
      have e : mayS r.1 ns.length il (kids r.2).length = il := by unfold mayS; rw [if_pos c]
      rw [e] at k
      exact ⟨_, rfl, k H (Same.refl H)⟩
    · refine iteF' (decide_eq_false fun z => c (by injection z)) ?_
      have e : mayS r.1 ns.length il (kids r.2).length = (decide ((ns.length + 1) / 2 < 5) || decide ((kids r.2).length = 0)) := by unfold mayS; rw [if_neg c]
      rw [e] at k
      refine ⟨_, rfl, t, _, rfl, .inr ht, _, _, rfl, rfl, _, _, rfl, rfl, ⟨by decide, by decide⟩, ?_⟩
      refine ⟨_, rfl, _, _, rfl, rfl, _, rfl, ?_⟩
      have e2 : (((ns.length : Int) + 1).fdiv 2 < 5) ↔ ((ns.length + 1) / 2 < 5) := by
        have : ((ns.length : Int) + 1).fdiv 2 = (((ns.length + 1) / 2 : Nat) : Int) := by
          rw [Int.fdiv_eq_ediv_of_nonneg _ (by decide)]
          omega
        rw [this]
        omega
      cases c2 : decide ((ns.length + 1) / 2 < 5) with
      | true =>
        have c3 : decide (((ns.length : Int) + 1).fdiv 2 < 5) = true := decide_eq_true (e2.mpr (of_decide_eq_true c2))
        rw [c2] at k
        refine iteT' c3 ?_
        exact k H (Same.refl H)
      | false =>
        have c3 : decide (((ns.length : Int) + 1).fdiv 2 < 5) = false := decide_eq_false fun z => of_decide_eq_false c2 (e2.mp z)
        rw [c2] at k
        refine iteF' c3 ?_
        refine ⟨_, rfl, _, H0, d, r, fs, rfl, hra, S0, hf, hk, fk, fun H1 D ls S1 nD hD hls => ?_⟩
        refine ⟨D, _, rfl, .inl (SqL.of hD), rfl, ?_⟩
        have e4 : decide (V.int ls.length = V.int 0) = (false || decide ((kids r.2).length = 0)) := by
          have l := hls.len
          by_cases z : (kids r.2).length = 0
          · have z' : ls.length = 0 := by omega
            simp [z, z']
          · have z' : ¬ ls.length = 0 := by omega
            simp [z, z']
        rw [e4]
        exact k H1 S1
end
end OR

set_option Elab.async false
set_option maxRecDepth 100000
set_option maxHeartbeats 4000000
set_option linter.all false
namespace OR
open PySem PySem.Spec PyProof.Rows L2 TS2
def wordR {R : Type} : Pt R → Bool
  | .word z => isWord z
  | _ => false
theorem is_w {K : PySem.W.Frag} {R : Type} {H0 H : Hp} {RA : R → V → Prop} {p : Pt R} {v : V} {Q : VK} {E : XK} (h : PtAt K H0 RA p v) (S : Same H0 H) (n : ∀ z ∈ wordsP p, z.length ≤ 1000) (k : ∀ H', Same H H' → Q (.bl (wordR p)) H') : spIsWord K [v] H Q E := by
  have h : PtAt K H RA p v := PtAt.mono S (fun _ _ q => q) h
  cases p with
  | word z => exact .inl ⟨z, by rw [show v = .str z from h], Nat.le_of_lt (small1000 (n z List.mem_cons_self)), k⟩
  | words l =>
    obtain ⟨a, rfl, ha⟩ := h
    exact .inr ⟨_, rfl, ⟨_, tyT ha, kit_ty (by decide +kernel)⟩, k H (Same.refl H)⟩
  | rows l =>
    obtain ⟨a, xs, rfl, ha, _⟩ := h
    exact .inr ⟨_, rfl, ⟨_, tyL (SqL.of ha), kit_ty (by decide +kernel)⟩, k H (Same.refl H)⟩
  | sides ls =>
    obtain ⟨a, vs, rfl, ha, _⟩ := h
    exact .inr ⟨_, rfl, ⟨_, tyT ha, kit_ty (by decide +kernel)⟩, k H (Same.refl H)⟩
section
variable {P : Program} {w : World} {K : PySem.W.Frag} {mg : Str → Option Value} {base : Heap}
theorem ok_fits {f : Addr} {fd : FuncData} (F : FnP K "fits" "RowCheck.fits" s_RowCheck_fits f fd) (T : Tx w K mg) (G_is_word : Def P w K mg base CX0 1 "is_word" p_is_word (spIsWord K)) (G_are_words : Def P w K mg base CX0 2 "are_words" p_are_words (spAreWords K))
    (G_are_sides : Def P w K mg base CX0 1 "are_sides" p_are_sides (spSides K)) : FnOk P w K mg base CX0 3 f fd p_RowCheck_fits (spFits K) := by
  refine F.ok sc_RowCheck_fits (fun vs H Q E h => ?_) (fun cdv A outer s H vs Q E hr h => ?_)
  · obtain ⟨p, f, v, _, _, _, _, _, _, _, _, _, _, _, _, rfl, _⟩ := h
    rfl
  · obtain ⟨p, fm, v, d, H0, pt, ed, ka, ks, st, a, s', e, g, dx, rfl, rc, hp, S0, ⟨nw, nf, nk, n1, n2⟩, k⟩ := h
    have hu := hu_of hr
    obtain ⟨t1, mINPUT_SLOT⟩ := T.m_INPUT_SLOT
    obtain ⟨t2, mMOST_IN_ROW⟩ := T.m_MOST_IN_ROW
    refine ⟨_, PSs.nox (pss_cons (ps_if (pt_cmpR op_eq (pv 1) pe_str (nomark _)) (pss_one (ps_ret (pe_and (pe_fn G_is_word (hr.mono (by decide)) (by rfl) pass0 (pa_cons (pv 2) pa_nil)) (pe_one (pe_cmp (pc_din hu (pv 2) (pe_fld (pv 0) rfl))))))) pss_nil)
      (pss_cons (ps_if (pt_cmpR op_eq (pv 1) pe_str (nomark _)) (pss_one (ps_ret (pe_and (pe_fn G_is_word (hr.mono (by decide)) (by rfl) pass0 (pa_cons (pv 2) pa_nil)) (pe_one (pe_cmp (pc_din hu (pv 2) (pe_fld (pv 0) rfl))))))) pss_nil)
      (pss_cons (ps_if (pt_cmpR op_eq (pv 1) pe_str (nomark _)) (pss_one (ps_ret (pe_and (pe_fn G_is_word (hr.mono (by decide)) (by rfl) pass0 (pa_cons (pv 2) pa_nil)) (pe_one (pe_cmpR op_ne (pv 2) (pe_glob (by rfl) mINPUT_SLOT (show RelV (.str "in") _ from ⟨_, rfl⟩)) (nomark _)))))) pss_nil)
      (pss_cons (ps_if (pt_cmpR op_in_seq (pv 1) (pe_tup (pa_cons pe_str (pa_cons pe_str pa_nil))) (by rfl)) (pss_one (ps_ret (pe_fn G_are_words (hr.mono (by decide)) (by rfl) pass0 (pa_cons (pv 2) (pa_cons (pe_glob (by rfl) mMOST_IN_ROW (show RelV (.int (3)) _ from ⟨_, rfl⟩)) pa_nil))))) pss_nil)
      (pss_cons (ps_if (pt_cmpR op_eq (pv 1) pe_str (nomark _)) (pss_one (ps_ret (pe_callB call_isi (by rfl) T.b_isinstance (by decide +kernel) (pa_cons (pv 2) (pa_cons (pe_bltn (v := .ty "list") (u := .type "list") (by rfl) T.b_list (by decide +kernel) rfl) pa_nil))))) pss_nil)
      (pss_cons (ps_if (pt_cmpR op_eq (pv 1) pe_str (nomark _)) (pss_one (ps_ret (pe_fn G_are_sides (hr.mono (by decide)) (by rfl) pass0 (pa_cons (pv 2) pa_nil)))) pss_nil)
      (pss_one (ps_ret (pe_fn G_is_word (hr.mono (by decide)) (by rfl) pass0 (pa_cons (pv 2) pa_nil)))))))))), ?_⟩
    have hpH : PtAt K H (RowAt K H0 d) pt v := PtAt.mono S0 (fun _ _ q => q) hp
    refine ⟨_, rfl, rfl, _, rfl, ?_⟩
    by_cases c1 : fm = "ask"
    · have ef : fit ka ks fm pt = onWord (hasK ka) pt := by unfold fit; rw [if_pos c1]
      refine iteT' (decide_eq_true (by rw [c1])) ?_
      refine ⟨_, rfl, ?_⟩
      dsimp only [tNil, List.append_nil]
      refine is_w hp S0 nw (fun H1 S1 => ?_)
      refine ⟨_, rfl, ?_⟩
      have rc1 := rc.same S1
      cases pt with
      | word z =>
        cases (show v = .str z from hp)
        have k1 : Q (.bl (isWord z && hasK ka z)) H1 := by
          have q := k H1 S1
          rw [ef] at q
          exact q
        show if isWord z = true then _ else _
        cases ew : isWord z with
        | false =>
          rw [ew] at k1
          exact iteF k1
        | true =>
          rw [ew] at k1
          exact iteT ⟨_, rfl, _, rfl, p, _, dx, _, .ref a, rfl, rc1.ob, T.c_RowCheck, T.n_RowCheck_ask_table, rfl, a, _, rfl, DGet.k (k := .inr z) rc1.ha, k1⟩
      | words l => rw [ef] at k; exact iteF (k H1 S1)
      | rows l => rw [ef] at k; exact iteF (k H1 S1)
      | sides l => rw [ef] at k; exact iteF (k H1 S1)
    refine iteF' (decide_eq_false fun z => c1 (by injection z)) ?_
    refine ⟨_, rfl, rfl, _, rfl, ?_⟩
    by_cases c2 : fm = "signal"
    · have ef : fit ka ks fm pt = onWord (hasK ks) pt := by unfold fit; rw [if_neg c1, if_pos c2]
      refine iteT' (decide_eq_true (by rw [c2])) ?_
      refine ⟨_, rfl, ?_⟩
      dsimp only [tNil, List.append_nil]
      refine is_w hp S0 nw (fun H1 S1 => ?_)
      refine ⟨_, rfl, ?_⟩
      have rc1 := rc.same S1
      cases pt with
      | word z =>
        cases (show v = .str z from hp)
        have k1 : Q (.bl (isWord z && hasK ks z)) H1 := by
          have q := k H1 S1
          rw [ef] at q
          exact q
        show if isWord z = true then _ else _
        cases ew : isWord z with
        | false =>
          rw [ew] at k1
          exact iteF k1
        | true =>
          rw [ew] at k1
          exact iteT ⟨_, rfl, _, rfl, p, _, dx, _, .ref s', rfl, rc1.ob, T.c_RowCheck, T.n_RowCheck_signal_table, rfl, s', _, rfl, DGet.k (k := .inr z) rc1.hs, k1⟩
      | words l => rw [ef] at k; exact iteF (k H1 S1)
      | rows l => rw [ef] at k; exact iteF (k H1 S1)
      | sides l => rw [ef] at k; exact iteF (k H1 S1)
    refine iteF' (decide_eq_false fun z => c2 (by injection z)) ?_
    refine ⟨_, rfl, rfl, _, rfl, ?_⟩
    by_cases c3 : fm = "slot"
    · have ef : fit ka ks fm pt = onWord (fun z => decide (z ≠ "in")) pt := by unfold fit; rw [if_neg c1, if_neg c2, if_pos c3]
      refine iteT' (decide_eq_true (by rw [c3])) ?_
      refine ⟨_, rfl, ?_⟩
      dsimp only [tNil, List.append_nil]
      refine is_w hp S0 nw (fun H1 S1 => ?_)
      refine ⟨_, rfl, ?_⟩
      cases pt with
      | word z =>
        cases (show v = .str z from hp)
        have k1 : Q (.bl (isWord z && (fun z : Str => decide (z ≠ "in")) z)) H1 := by
          have q := k H1 S1
          rw [ef] at q
          exact q
        show if isWord z = true then _ else _
        cases ew : isWord z with
        | false =>
          rw [ew] at k1
          exact iteF k1
        | true =>
          rw [ew] at k1
          refine iteT ⟨_, rfl, rfl, ?_⟩
          have e5 : (!decide (V.str z = V.str "in")) = (true && decide (z ≠ "in")) := by
            by_cases q : z = "in" <;> simp [q]
          rw [e5]
          exact k1
      | words l => rw [ef] at k; exact iteF (k H1 S1)
      | rows l => rw [ef] at k; exact iteF (k H1 S1)
      | sides l => rw [ef] at k; exact iteF (k H1 S1)
    refine iteF' (decide_eq_false fun z => c3 (by injection z)) ?_
    refine ⟨_, rfl, by show 2 ≤ sizeLine; decide, fun t nt => ?_⟩
    refine ⟨t, _, rfl, .inr (SqT.of upd_same), rfl, rfl, _, rfl, ?_⟩
    have S1 : Same H (upd H t (.tup [.str "labels", .str "words"])) := Same.new nt
    have e6 : (if false = true then !inV (.str fm) [.str "labels", .str "words"] else inV (.str fm) [.str "labels", .str "words"]) = decide (fm = "labels" ∨ fm = "words") := by
      rw [if_neg (by decide)]
      have := inV_words (f := fm) ["labels", "words"]
      refine this.trans ?_
      simp
    rw [e6]
    generalize upd H t (.tup [.str "labels", .str "words"]) = H1 at S1 ⊢
    have hp1 : PtAt K H1 (RowAt K H0 d) pt v := PtAt.mono S1 (fun _ _ q => q) hpH
    by_cases c4 : fm = "labels" ∨ fm = "words"
    · have ef : fit ka ks fm pt = onWords (areW 3) pt := by unfold fit; rw [if_neg c1, if_neg c2, if_neg c3, if_pos c4]
      refine iteT' (decide_eq_true c4) ?_
      refine ⟨_, rfl, v, 3, rfl, ?_⟩
      cases pt with
      | word z =>
        cases (show v = .str z from hp)
        rw [ef] at k
        exact .inr ⟨⟨_, .base (.str z), kit_ty (by decide +kernel)⟩, k H1 S1⟩
      | words l =>
        obtain ⟨b, rfl, hb⟩ := hp1
        rw [ef] at k
        exact .inl ⟨b, l, rfl, hb, fun z hz => Nat.le_of_lt (small1000 (nw z hz)), by simp [wordsP] at nf; omega, fun H2 S2 => k H2 (S1.trans S2)⟩
      | rows l =>
        obtain ⟨b, xs, rfl, hb, _⟩ := hp1
        rw [ef] at k
        exact .inr ⟨⟨_, tyL (SqL.of hb), kit_ty (by decide +kernel)⟩, k H1 S1⟩
      | sides ls => exact absurd rfl (n1 c4 ls)
    refine iteF' (decide_eq_false c4) ?_
    refine ⟨_, rfl, rfl, _, rfl, ?_⟩
    by_cases c5 : fm = "rows"
    · have ef : fit ka ks fm pt = isRows pt := by unfold fit; rw [if_neg c1, if_neg c2, if_neg c3, if_neg c4, if_pos c5]
      refine iteT' (decide_eq_true (by rw [c5])) ?_
      rw [ef] at k
      cases pt with
      | word z =>
        cases (show v = .str z from hp)
        exact ⟨_, rfl, .str z, .ty "list", _, _, false, rfl, .ty _, .base (.str z), kit_ty (by decide +kernel), k H1 S1⟩
      | words l =>
        obtain ⟨b, rfl, hb⟩ := hp1
        exact ⟨_, rfl, .ref b, .ty "list", _, _, false, rfl, .ty _, tyT hb, kit_ty (by decide +kernel), k H1 S1⟩
      | rows l =>
        obtain ⟨b, xs, rfl, hb, _⟩ := hp1
        exact ⟨_, rfl, .ref b, .ty "list", _, _, true, rfl, .ty _, tyL (SqL.of hb), kit_ty (by decide +kernel), k H1 S1⟩
      | sides ls =>
        obtain ⟨b, vs, rfl, hb, _⟩ := hp1
        exact ⟨_, rfl, .ref b, .ty "list", _, _, false, rfl, .ty _, tyT hb, kit_ty (by decide +kernel), k H1 S1⟩
    refine iteF' (decide_eq_false fun z => c5 (by injection z)) ?_
    refine ⟨_, rfl, rfl, _, rfl, ?_⟩
    by_cases c6 : fm = "sides"
    · have ef : fit ka ks fm pt = onSides pt := by unfold fit; rw [if_neg c1, if_neg c2, if_neg c3, if_neg c4, if_neg c5, if_pos c6]
      refine iteT' (decide_eq_true (by rw [c6])) ?_
      rw [ef] at k
      refine ⟨_, rfl, v, rfl, ?_⟩
      cases pt with
      | word z =>
        cases (show v = .str z from hp)
        exact .inr ⟨⟨_, .base (.str z), kit_ty (by decide +kernel)⟩, k H1 S1⟩
      | words l => exact absurd rfl (n2 c6 l)
      | rows l =>
        obtain ⟨b, xs, rfl, hb, _⟩ := hp1
        exact .inr ⟨⟨_, tyL (SqL.of hb), kit_ty (by decide +kernel)⟩, k H1 S1⟩
      | sides ls =>
        obtain ⟨b, vs, rfl, hb, hls⟩ := hp1
        have el := hls.len
        refine .inl ⟨b, vs, rfl, hb, by simp [kidsP] at nk; omega, fun x hx => ?_, fun H2 S2 => ?_⟩
        · obtain ⟨i, hi⟩ := List.getElem?_of_mem hx
          obtain ⟨l, _, c, cs, rfl, hc, _⟩ := hls.other hi
          exact ⟨c, cs, rfl, hc⟩
        · rw [← el]
          exact k H2 (S1.trans S2)
    refine iteF' (decide_eq_false fun z => c6 (by injection z)) ?_
    have ef : fit ka ks fm pt = wordR pt := by
      unfold fit
      rw [if_neg c1, if_neg c2, if_neg c3, if_neg c4, if_neg c5, if_neg c6]
      cases pt <;> simp [onWord, wordR]
    refine ⟨_, rfl, ?_⟩
    dsimp only [tNil, List.append_nil]
    refine is_w hp (S0.trans S1) nw (fun H2 S2 => ?_)
    rw [ef] at k
    exact k H2 (S1.trans S2)
end
end OR

set_option Elab.async false
set_option maxRecDepth 100000
set_option maxHeartbeats 4000000
set_option linter.all false
namespace OR
open PySem PySem.Spec PyProof.Rows L2 TS2
theorem fit_kind {R : Type} {ka ks : List (Key × V)} {f : Str} {p : Pt R} (h : fit ka ks f p = true) : kindOk f p = true := by
  unfold fit at h
  by_cases c1 : f = "ask"
  · subst c1; cases p <;> first | (simp [onWord] at h; done) | decide +kernel | simp [kindOk] <;> decide +kernel
  rw [if_neg c1] at h
  by_cases c2 : f = "signal"
  · subst c2; cases p <;> first | (simp [onWord] at h; done) | decide +kernel | simp [kindOk] <;> decide +kernel
  rw [if_neg c2] at h
  by_cases c3 : f = "slot"
  · subst c3; cases p <;> first | (simp [onWord] at h; done) | decide +kernel | simp [kindOk] <;> decide +kernel
  rw [if_neg c3] at h
  by_cases c4 : f = "labels" ∨ f = "words"
  · rw [if_pos c4] at h
    cases p with
    | words l => simp [kindOk]; exact c4
    | word z => simp [onWords] at h
    | rows l => simp [onWords] at h
    | sides l => simp [onWords] at h
  rw [if_neg c4] at h
  by_cases c5 : f = "rows"
  · rw [if_pos c5] at h
    cases p with
    | words l => simp [isRows] at h
    | word z => simp [isRows] at h
    | rows l => simp [kindOk, c5]
    | sides l => simp [isRows] at h
  rw [if_neg c5] at h
  by_cases c6 : f = "sides"
  · rw [if_pos c6] at h
    cases p with
    | words l => simp [onSides] at h
    | word z => simp [onSides] at h
    | rows l => simp [onSides] at h
    | sides l => simp [kindOk, c6]
  rw [if_neg c6] at h
  cases p with
  | words l => simp [onWord] at h
  | word z =>
    have c7 : f ≠ "labels" := fun z => c4 (.inl z)
    have c8 : f ≠ "words" := fun z => c4 (.inr z)
    simp [kindOk, c5, c6, c7, c8]
  | rows l => simp [onWord] at h
  | sides l => simp [onWord] at h
theorem zip_kinds {R : Type} {ka ks : List (Key × V)} : ∀ {fs : List Str} {ps : List (Pt R)}, ps.length = fs.length → ((fs.zip ps).map fun x => fit ka ks x.1 x.2).all id = true → KindsOk fs ps
  | [], [], _, _ => .nil
  | f :: fs, p :: ps, h, a => by
    simp at a h
    exact .cons (fit_kind a.1) (zip_kinds h (by simpa using a.2))
  | [], _ :: _, h, _ => by simp at h
  | _ :: _, [], h, _ => by simp at h
theorem hasForm_kinds {R : Type} {ed : Bool} {ka ks : List (Key × V)} {w : Str} {fs : List Str} {ps : List (Pt R)} (h : hasForm ed ka ks w fs ps = true) : KindsOk fs ps := by
  unfold hasForm at h
  simp only [Bool.and_eq_true, decide_eq_true_eq] at h
  exact zip_kinds h.2.1 h.2.2
theorem ftab_edit : ∀ e ∈ ftab, ("edit" : Str) ∈ e.2 → e.2.head? = some ("edit" : Str) := by decide +kernel
theorem ftab_gate : ∀ e ∈ ftab, ("gate" : Str) ∈ e.2 → e.2.head? = some ("gate" : Str) := by decide +kernel
theorem first_at {R : Type} {f : Str} {fs : List Str} {ps : List (Pt R)} (hk : KindsOk fs ps) (h : fs.head? = some f) (n : f ≠ "rows" ∧ f ≠ "sides" ∧ f ≠ "labels" ∧ f ≠ "words") : ∃ z qs, ps = .word z :: qs := by
  cases ps with
  | nil =>
    cases hk
    simp at h
  | cons p qs =>
    cases hk with
    | cons h1 t =>
      simp at h
      subst h
      cases p with
      | word z => exact ⟨z, _, rfl⟩
      | words l => simp [kindOk] at h1; rcases h1 with h1 | h1 <;> simp [h1] at n
      | rows l => simp [kindOk] at h1; simp [h1] at n
      | sides l => simp [kindOk] at h1; simp [h1] at n
theorem RC.keep {K : PySem.W.Frag} {H H' : Hp} {p : Addr} {ed : Bool} {ka ks : List (Key × V)} {st st' : Sn} {a s e g dx : Addr} (c : RC K H p ed ka ks st a s e g dx) (k : Kp (fun b => b = e ∨ b = g) H H') (h1 : H' e = some (.dK st'.1)) (h2 : H' g = some (.dK st'.2)) : RC K H' p ed ka ks st' a s e g dx := by
  have pe : p ≠ e := ne_of c.ob c.he (by intro z; cases z)
  have pg : p ≠ g := ne_of c.ob c.hg (by intro z; cases z)
  exact ⟨k _ _ c.ob (by rintro (z | z); exact pe z; exact pg z), k _ _ c.ha (by rintro (z | z); exact c.ea.1 z; exact c.ea.2.1 z), k _ _ c.hs (by rintro (z | z); exact c.ea.2.2.1 z; exact c.ea.2.2.2 z), h1, h2, c.eg, c.ea⟩
section
variable {P : Program} {w : World} {K : PySem.W.Frag} {mg : Str → Option Value} {base : Heap}
theorem ok_has_form {f : Addr} {fd : FuncData} (F : FnP K "has_form" "RowCheck.has_form" s_RowCheck_has_form f fd) (T : Tx w K mg) (M_fits : MDef P w K mg base CX0 3 (He.ga K "RowCheck") "fits" p_RowCheck_fits (spFits K)) : FnOk P w K mg base CX0 4 f fd p_RowCheck_has_form (spHasForm K) := by
  refine F.ok sc_RowCheck_has_form (fun vs H Q E h => ?_) (fun cdv A outer s H vs Q E hr h => ?_)
  · obtain ⟨p, v, _, _, _, _, _, _, _, _, _, _, _, _, _, rfl, _⟩ := h
    rfl
  · obtain ⟨p, v, d, H0, r, fs, ed, ka, ks, st, a, s', e, g, dx, rfl, rc, ⟨b, vs, rfl, hb, hp⟩, S0, hf, nice, few, k⟩ := h
    obtain ⟨t1, mEDIT⟩ := T.m_EDIT
    have hb1 := sameT S0 hb
    obtain ⟨q, e1, hq⟩ := T.forms _ hf
    refine ⟨_, PSs.nox (pss_cons (ps_if (PW.pt (pw_or (pt_not (pt_val (pe_callB call_isi (by rfl) T.b_isinstance (by decide +kernel) (pa_cons (pv 1) (pa_cons (pe_bltn (v := .ty "tuple") (u := .type "tuple") (by rfl) T.b_tuple (by decide +kernel) rfl) pa_nil))))) (pw_or1 (pt_cmpR op_eq (pe_callB call_len_seq (by rfl) T.b_len PySem.boot_len (pa_cons (pv 1) pa_nil)) pe_int (nomark _))))) (pss_one (ps_ret pe_bl)) pss_nil)
      (pss_cons (ps_if (PW.pt (pw_or (pt_not (pt_val (pe_callB call_isi (by rfl) T.b_isinstance (by decide +kernel) (pa_cons (pe_ix ix_tup (pv 1) pe_int (fun _ _ => rfl)) (pa_cons (pe_bltn (v := .ty "str") (u := .type "str") (by rfl) T.b_str (by decide +kernel) rfl) pa_nil))))) (pw_or (pt_cmpR (op_notIn_kd' T.D_FORMS) (pe_ix ix_tup (pv 1) pe_int (fun _ _ => rfl)) (pe_ref (by rfl) T.m_FORMS) (by rfl)) (pw_or1 (PW.pt (pw_and (pt_cmpR op_eq (pe_ix ix_tup (pv 1) pe_int (fun _ _ => rfl)) (pe_glob (by rfl) mEDIT (show RelV (.str "edit") _ from ⟨_, rfl⟩)) (nomark _)) (pw_and1 (pt_not (pt_val (pe_fld (pv 0) rfl)))))))))) (pss_one (ps_ret pe_bl)) pss_nil)
      (pss_cons (ps_set (i := 2) sc_RowCheck_has_form.nd rfl (.inl rfl) (pe_ix ix_kdict (pe_ref (by rfl) T.m_FORMS) (pe_ix ix_tup (pv 1) pe_int (fun _ _ => rfl)) (fun _ _ => rfl)))
      (pss_cons (ps_if (pt_cmpR op_ne (pe_callB call_len_seq (by rfl) T.b_len PySem.boot_len (pa_cons (pv 1) pa_nil)) (pe_op op_add pe_int (pe_callB call_len_seq (by rfl) T.b_len PySem.boot_len (pa_cons (pv 2) pa_nil))) (nomark _)) (pss_one (ps_ret pe_bl)) pss_nil)
      (pss_one (ps_ret (pe_callB (cr_all rfl) (by rfl) T.b_all (by decide +kernel) (pa_cons (pe_lc (own := [("form", 3), ("part", 4)]) (g := (gTup K 2 (gCons (gName 3) (gCons (gName 4) gNil)))) (by rfl) sc_RowCheck_has_form.nd (RZ.pi_zipA (by rfl) T.b_zip (pa_cons (pv 2) (pa_cons (pe_slice sl_tup (pv 1) (po_some pe_int) po_none) pa_nil))) (blkOk_by (N := n_RowCheck_has_form) (sc := defScope s_RowCheck_has_form) (by decide +kernel)) (fun _ _ _ _ _ => (pg_tup (by rfl) (pgs_cons (pg_name (i := 3) sc_RowCheck_has_form.nd rfl (.inl rfl)) (pgs_cons (pg_name (i := 4) sc_RowCheck_has_form.nd rfl (.inl rfl)) pgs_nil)))) (fun _ _ _ _ _ => pts_nil) (fun _ _ _ _ _ => (pe_mth M_fits (hr.mono (by decide)) pass0 (pv 0) (pa_cons (pv 3) (pa_cons (pv 4) pa_nil))))) pa_nil)))))))), ?_⟩
    refine ⟨_, rfl, .ref b, .ty "tuple", _, _, true, rfl, .ty _, tyT hb1, kit_ty (by decide +kernel), _, rfl, ?_⟩
    refine iteF ⟨_, rfl, b, _, rfl, .inr hb1, rfl, _, rfl, ?_⟩
    refine iteF' (decide_eq_false fun z => by injection z with z; simp only [List.length_cons] at z; omega) ?_
    refine ⟨_, rfl, b, _, _, .str r.1, rfl, rfl, hb1, at0, .str r.1, .ty "str", _, _, true, rfl, .ty _, .base (.str _), kit_ty (by decide +kernel), _, rfl, ?_⟩
    refine iteF ?_
    refine ⟨_, rfl, b, _, _, .str r.1, rfl, rfl, hb1, at0, _, _, rfl, rfl, e1, _, rfl, ?_⟩
    refine iteF ?_
    refine ⟨_, rfl, b, _, _, .str r.1, rfl, rfl, hb1, at0, rfl, _, rfl, ?_⟩
    have cc : (r.1 = "edit" ∧ ed = false) ∨ (r.1 = "edit" ∧ ed = true) ∨ r.1 ≠ "edit" := by
      by_cases c : r.1 = "edit"
      · cases ed
        · exact .inl ⟨c, rfl⟩
        · exact .inr (.inl ⟨c, rfl⟩)
      · exact .inr (.inr c)
    rcases cc with ⟨c, rfl⟩ | ⟨c, rfl⟩ | c
    · refine iteT' (decide_eq_true (by rw [c])) ?_
      refine ⟨_, rfl, p, _, dx, _, .bl false, rfl, rc.ob, T.c_RowCheck, T.n_RowCheck_with_edits, rfl, _, rfl, ?_⟩
      refine iteT ?_
      have e2 : hasForm false ka ks r.1 fs r.2 = false := by unfold hasForm; simp [c]
      rw [e2] at k
      exact k H (Same.refl H)
    refine iteT' (decide_eq_true (by rw [c])) ?_
    refine ⟨_, rfl, p, _, dx, _, .bl true, rfl, rc.ob, T.c_RowCheck, T.n_RowCheck_with_edits, rfl, _, rfl, ?_⟩
    refine iteF ?_
    have e2 : hasForm true ka ks r.1 fs r.2 = (decide (r.2.length = fs.length) && ((fs.zip r.2).map fun x => fit ka ks x.1 x.2).all id) := by unfold hasForm; simp
    rotate_left
    refine iteF' (decide_eq_false fun z => c (by injection z)) ?_
    have e2 : hasForm ed ka ks r.1 fs r.2 = (decide (r.2.length = fs.length) && ((fs.zip r.2).map fun x => fit ka ks x.1 x.2).all id) := by unfold hasForm; simp [c]
    rotate_left
    all_goals
      rw [e2] at k
      have lp := hp.len
      refine ⟨_, rfl, b, _, _, .str r.1, rfl, rfl, hb1, at0, _, _, .ref q, rfl, rfl, kdct T.D_FORMS e1 rfl, ?_⟩
      refine ⟨_, rfl, b, _, rfl, .inr hb1, _, rfl, q, _, rfl, .inr (hq _), _, _, rfl, rfl, rfl, _, rfl, ?_⟩
      by_cases cl : r.2.length = fs.length
      · have e3 : (!decide (V.int ((V.str r.1 :: vs).length : Int) = V.int (1 + ((fs.map V.str).length : Int)))) = false := by
          rw [decide_eq_true (by congr 1; simp only [List.length_cons, List.length_map]; omega)]
          rfl
        refine iteF' e3 ?_
        rw [decide_eq_true cl] at k
        refine ⟨_, rfl, _, rfl, 1, rfl, b, _, rfl, hb1, by rw [List.length_cons]; exact not_whole, fun t nt => ?_⟩
        rw [cut1]
        have S1 : Same H (upd H t (.tup vs)) := Same.new nt
        have ht : upd H t (.tup vs) t = some (.tup vs) := upd_same
        generalize upd H t (.tup vs) = H1 at S1 ht ⊢
        refine ⟨q, t, fs.map V.str, vs, rfl, .inr ⟨hq _, SqT.of ht, fun D nD => ?_⟩⟩
        refine lc_it (walk_zipT (K := K) (a := q) (b := t) (xs := fs.map V.str) (ys := vs) (n := vs.length) (by rw [List.length_map, ← lp, cl]; simp)) (fun i H2 => Same H1 H2 ∧ H2 D = some (.lst ((((fs.zip r.2).map fun x => fit ka ks x.1 x.2).take i).map V.bl))) ⟨Same.new nD, upd_same⟩
          (fun i H2 _ q2 => ⟨hq _, sameT q2.1 (SqT.of ht)⟩) (fun i x H2 H3 hi p2 y => ?_) (fun H2 p2 => ?_)
        · obtain ⟨T1, fm, v, rfl, nT, rfl, hx, hy⟩ := y
          obtain ⟨S2, hD⟩ := p2
          have hx : (fs.map V.str)[i]? = some fm := hx
          have hy : vs[i]? = some v := hy
          rw [List.getElem?_map] at hx
          cases ef : fs[i]? with
          | none => rw [ef] at hx; cases hx
          | some f0 =>
            rw [ef] at hx
            cases Option.some.inj hx
            obtain ⟨pt, hpt, hpat⟩ := hp.other hy
            have hz : (fs.zip r.2)[i]? = some (f0, pt) := by rw [List.getElem?_zip_eq_some]; exact ⟨ef, hpt⟩
            refine ⟨T1, _, rfl, SqT.of upd_same, rfl, _, _, rfl, _, _, rfl, rfl, rfl, ?_⟩
            refine tYes_ ?_
            refine iteT ?_
            have S3 : Same H2 (upd H2 T1 (.tup [.str f0, v])) := Same.new nT
            refine ⟨_, rfl, p, dx, _, rfl, S3 _ _ (S2 _ _ (S1 _ _ rc.ob)), rfl, _, rfl, _, rfl, ?_⟩
            refine ⟨p, f0, v, d, H0, pt, _, ka, ks, st, a, s', e, g, dx, rfl, ((rc.same S1).same S2).same S3, hpat, S0.trans (S1.trans (S2.trans S3)), nice _ (List.mem_of_getElem? hz), fun H4 S4 => ?_⟩
            have hD4 : H4 D = _ := S4 _ _ (by rw [upd_ne (ne_of_none hD nT)]; exact hD)
            refine ⟨_, hD4, ?_, fun b o hb => ?_, ?_⟩
            · rw [List.length_map, List.length_take, List.length_map, List.length_zip]
              exact small1000 (by omega)
            · have nb : b ≠ D := fun z => by rw [z, nD] at hb; cases hb
              rw [upd_ne nb]
              exact S4 _ _ (by rw [upd_ne (ne_of_none (S2 _ _ hb) nT)]; exact S2 _ _ hb)
            · rw [upd_same, take_more (x := fit ka ks f0 pt) (by rw [List.getElem?_map, hz]; rfl), List.map_append]
              rfl
        · obtain ⟨S2, hD⟩ := p2
          refine ⟨D, (fs.zip r.2).map fun x => fit ka ks x.1 x.2, rfl, SqL.of ?_, ?_⟩
          · rw [hD, List.take_of_length_le (by rw [List.length_map, List.length_zip]; omega)]
          · exact k _ (S1.trans S2)
      · have e3 : (!decide (V.int ((V.str r.1 :: vs).length : Int) = V.int (1 + ((fs.map V.str).length : Int)))) = true := by
          rw [decide_eq_false (fun z => by injection z with z; simp only [List.length_cons, List.length_map] at z; omega)]
          rfl
        refine iteT' e3 ?_
        rw [decide_eq_false cl] at k
        exact k H (Same.refl H)
theorem ok_is_new {f : Addr} {fd : FuncData} (F : FnP K "is_new" "RowCheck.is_new" s_RowCheck_is_new f fd) (T : Tx w K mg) : FnOk P w K mg base CX0 1 f fd p_RowCheck_is_new (spIsNew K) := by
  refine F.ok sc_RowCheck_is_new (fun vs H Q E h => ?_) (fun cdv A outer s H vs Q E hr h => ?_)
  · obtain ⟨p, v, _, _, _, _, _, _, _, _, _, _, _, _, _, rfl, _⟩ := h
    rfl
  · obtain ⟨p, v, d, H0, r, fs, ed, ka, ks, st, a, s', e, g, dx, rfl, rc, ⟨b, vs, rfl, hb, hp⟩, S0, ne, ng, hf, hk, l1, l2, k⟩ := h
    have hu := hu_of hr
    have hb1 := sameT S0 hb
    obtain ⟨q, e1, hq⟩ := T.forms _ hf
    refine ⟨_, PSs.nox (pss_cons (ps_set (i := 2) sc_RowCheck_is_new.nd rfl (.inl rfl) (pe_ix ix_kdict (pe_ref (by rfl) T.m_FORMS) (pe_ix ix_tup (pv 1) pe_int (fun _ _ => rfl)) (fun _ _ => rfl)))
      (pss_cons (ps_if (pt_cmpR op_in_seq pe_str (pv 2) (by rfl)) (pss_cons (ps_set (i := 3) sc_RowCheck_is_new.nd rfl (.inl rfl) (pe_and (pe_cmp (pc_dnotin hu (pe_ix ix_tup (pv 1) pe_int (fun _ _ => rfl)) (pe_fld (pv 0) rfl))) (pe_one (pe_cmp (pc_dnotin hu (pe_ix ix_tup (pv 1) pe_int (fun _ _ => rfl)) (pe_fld (pv 0) rfl))))))
      (pss_cons (ps_dput hu (pe_fld (pv 0) rfl) (pe_ix ix_tup (pv 1) pe_int (fun _ _ => rfl)) pe_bl rfl)
      (pss_one (ps_ret (pv 3))))) pss_nil)
      (pss_cons (ps_if (pt_cmpR op_in_seq pe_str (pv 2) (by rfl)) (pss_cons (ps_dput hu (pe_fld (pv 0) rfl) (pe_ix ix_tup (pv 1) pe_int (fun _ _ => rfl)) pe_bl rfl)
      (pss_one (ps_ret (pe_cmp (pc_dnotin hu (pe_ix ix_tup (pv 1) pe_int (fun _ _ => rfl)) (pe_fld (pv 0) rfl)))))) pss_nil)
      (pss_one (ps_ret pe_bl))))), ?_⟩
    refine ⟨_, rfl, b, _, _, .str r.1, rfl, rfl, hb1, at0, _, _, .ref q, rfl, rfl, kdct T.D_FORMS e1 rfl, ?_⟩
    refine ⟨_, rfl, q, _, rfl, .inr (hq _), rfl, flat_words _, _, rfl, ?_⟩
    have e3 : ∀ x : Str, (if false = true then !inV (.str x) (fs.map V.str) else inV (.str x) (fs.map V.str)) = decide (x ∈ fs) := fun x => inV_words _
    rw [e3]
    by_cases c1 : ("edit" : Str) ∈ fs
    · obtain ⟨z, qs, er⟩ := first_at hk (ftab_edit _ hf c1) (by decide +kernel)
      rw [er] at hp
      cases hp with
      | cons hz hp' =>
        rename_i y ys
        cases (show y = .str z from hz)
        have ei : isNew fs r.2 st = (!hasK st.1 z && !hasK st.2 z, (putK st.1 (Sum.inr z) (.bl true), st.2)) := by unfold isNew; rw [if_pos c1, er]; rfl
        rw [ei] at k
        refine iteT' (decide_eq_true c1) ?_
        have k2 := k _ (Kp.put (C := fun b => b = e ∨ b = g) (.inl rfl)) (rc.keep (st' := (putK st.1 (Sum.inr z) (.bl true), st.2)) (Kp.put (C := fun b => b = e ∨ b = g) (.inl rfl)) upd_same (by rw [upd_ne rc.eg.symm]; exact rc.hg))
        refine ⟨_, rfl, b, _, _, .str z, rfl, rfl, hb1, at1, _, rfl, p, _, dx, _, .ref e, rfl, rc.ob, T.c_RowCheck, T.n_RowCheck_seen_edits, rfl, e, _, rfl, DGet.k (k := .inr z) rc.he, _, rfl, ?_⟩
        cases c2 : hasK st.1 z with
        | true =>
          rw [c2] at k2
          refine iteF' (by show (!hasK st.1 z) = false; rw [c2]; rfl) ?_
          refine ⟨_, rfl, p, _, dx, _, .ref e, rfl, rc.ob, T.c_RowCheck, T.n_RowCheck_seen_edits, rfl, _, rfl, b, _, _, .str z, rfl, rfl, hb1, at1, e, _, rfl, DPut.k (k := .inr z) rc.he (Nat.lt_of_le_of_lt l1 (by decide)), ?_⟩
          exact ⟨_, rfl, k2⟩
        | false =>
          rw [c2] at k2
          refine iteT' (by show (!hasK st.1 z) = true; rw [c2]; rfl) ?_
          refine ⟨_, rfl, b, _, _, .str z, rfl, rfl, hb1, at1, _, rfl, p, _, dx, _, .ref g, rfl, rc.ob, T.c_RowCheck, T.n_RowCheck_seen_gates, rfl, g, _, rfl, DGet.k (k := .inr z) rc.hg, ?_⟩
          refine ⟨_, rfl, p, _, dx, _, .ref e, rfl, rc.ob, T.c_RowCheck, T.n_RowCheck_seen_edits, rfl, _, rfl, b, _, _, .str z, rfl, rfl, hb1, at1, e, _, rfl, DPut.k (k := .inr z) rc.he (Nat.lt_of_le_of_lt l1 (by decide)), ?_⟩
          exact ⟨_, rfl, k2⟩
    · refine iteF' (decide_eq_false c1) ?_
      refine ⟨_, rfl, q, _, rfl, .inr (hq _), rfl, flat_words _, _, rfl, ?_⟩
      rw [e3]
      by_cases c2 : ("gate" : Str) ∈ fs
      · obtain ⟨z, qs, er⟩ := first_at hk (ftab_gate _ hf c2) (by decide +kernel)
        rw [er] at hp
        cases hp with
        | cons hz hp' =>
          rename_i y ys
          cases (show y = .str z from hz)
          have ei : isNew fs r.2 st = (!hasK st.1 z, (st.1, putK st.2 (Sum.inr z) (.bl true))) := by unfold isNew; rw [if_neg c1, if_pos c2, er]; rfl
          rw [ei] at k
          refine iteT' (decide_eq_true c2) ?_
          have K1 : Kp (fun b => b = e ∨ b = g) H (upd H g (.dK (putK st.2 (Sum.inr z) (.bl true)))) := Kp.put (C := fun b => b = e ∨ b = g) (.inr rfl)
          have rc2 := rc.keep (st' := (st.1, putK st.2 (Sum.inr z) (.bl true))) K1 (by rw [upd_ne rc.eg]; exact rc.he) upd_same
          have k2 := k _ K1 rc2
          refine ⟨_, rfl, p, _, dx, _, .ref g, rfl, rc.ob, T.c_RowCheck, T.n_RowCheck_seen_gates, rfl, _, rfl, b, _, _, .str z, rfl, rfl, hb1, at1, g, _, rfl, DPut.k (k := .inr z) rc.hg (Nat.lt_of_le_of_lt l2 (by decide)), ?_⟩
          have hb2 : SqT K (upd H g (.dK (putK st.2 (Sum.inr z) (.bl true)))) b (.str r.1 :: .str z :: ys) := sameT (Kp.base S0 K1 (by rintro c (rfl | rfl); exact ne; exact ng)) hb
          refine ⟨_, rfl, b, _, _, .str z, rfl, rfl, hb2, at1, _, rfl, p, _, dx, _, .ref e, rfl, rc2.ob, T.c_RowCheck, T.n_RowCheck_seen_edits, rfl, e, _, rfl, DGet.k (k := .inr z) rc2.he, k2⟩
      · refine iteF' (decide_eq_false c2) ?_
        have ei : isNew fs r.2 st = (true, st) := by unfold isNew; rw [if_neg c1, if_neg c2]
        rw [ei] at k
        exact k H (Kp.refl H) rc
end
end OR

set_option Elab.async false
set_option maxRecDepth 100000
set_option maxHeartbeats 4000000
set_option linter.all false
namespace OR
open PySem PySem.Spec PyProof.Rows L2 TS2
def fsOf (w : Str) : List Str := (ftab.lookup w).getD []
theorem fsOf_at : ∀ e ∈ ftab, fsOf e.1 = e.2 := by decide +kernel
/-- one after another, each at its place behind the path; the first that stops it, and where -/
def seqChk {α : Type} (f : α → List Int → Sn → Option (List Int) × Sn) (pre : List Int) : List α → Nat → Sn → Option (List Int) × Sn
  | [], _, st => (none, st)
  | x :: xs, i, st => match f x (pre ++ [(i : Int)]) st with
    | (some p, st') => (some p, st')
    | (none, st') => seqChk f pre xs (i + 1) st'
def innerLoop (w : Str) (il : Bool) : Bool := decide (w = "loop") || (il && decide (w ≠ "both"))
/-- the check of one row: kid the check of a list within -/
def oneChk {R : Type} (ed : Bool) (ka ks : List (Key × V)) (kid : Bool → List R → List Int → Sn → Option (List Int) × Sn) (il : Bool) (r : Str × List (Pt R)) (path : List Int) (st : Sn) : Option (List Int) × Sn :=
  if hasForm ed ka ks r.1 (fsOf r.1) r.2 && mayS r.1 path.length il (kids r.2).length then
    (if (isNew (fsOf r.1) r.2 st).1 then seqChk (kid (innerLoop r.1 il)) path (kids r.2) 0 (isNew (fsOf r.1) r.2 st).2 else (some path, (isNew (fsOf r.1) r.2 st).2))
  else (some path, st)
def chk (ed : Bool) (ka ks : List (Key × V)) : (d : Nat) → Bool → List (Row d) → List Int → Sn → Option (List Int) × Sn
  | 0, _, _, _, st => (none, st)
  | d + 1, il, rows, pre, st => seqChk (oneChk ed ka ks (chk ed ka ks d) il) pre rows 0 st
def len2 (st : Sn) : Nat := st.1.length + st.2.length
theorem seqChk_len {α : Type} {f : α → List Int → Sn → Option (List Int) × Sn} {m : α → Nat} {pre : List Int} : ∀ {l : List α} {i : Nat} {st : Sn}, (∀ x ∈ l, ∀ p st, len2 (f x p st).2 ≤ len2 st + m x) → len2 (seqChk f pre l i st).2 ≤ len2 st + (l.map m).sum
  | [], i, st, _ => by simp [seqChk]
  | x :: xs, i, st, h => by
    have h1 := h x List.mem_cons_self (pre ++ [(i : Int)]) st
    unfold seqChk
    cases e : f x (pre ++ [(i : Int)]) st with
    | mk o st' =>
      rw [e] at h1
      cases o with
      | some p => simp at h1 ⊢; omega
      | none =>
        have h2 := seqChk_len (l := xs) (i := i + 1) (st := st') (pre := pre) fun y hy => h y (List.mem_cons_of_mem _ hy)
        simp at h1 h2 ⊢
        omega
theorem isNew_len {R : Type} (fs : List Str) (ps : List (Pt R)) (st : Sn) : len2 (isNew fs ps st).2 ≤ len2 st + 1 := by
  unfold isNew len2
  split
  · have := length_putK st.1 (Sum.inr (firstW ps)) (.bl true)
    simp; omega
  · split
    · have := length_putK st.2 (Sum.inr (firstW ps)) (.bl true)
      simp; omega
    · simp
theorem chk_len (ed : Bool) (ka ks : List (Key × V)) : ∀ (d : Nat) (il : Bool) (rows : List (Row d)) (pre : List Int) (st : Sn), len2 (chk ed ka ks d il rows pre st).2 ≤ len2 st + lsz d rows
  | 0, il, rows, pre, st => by simp [chk]
  | d + 1, il, rows, pre, st => by
    refine seqChk_len (m := rsz (d + 1)) fun r _ p st => ?_
    have e : rsz (d + 1) r = 1 + ((kids r.2).map (lsz d)).sum := rfl
    rw [e]
    unfold oneChk
    have h1 := isNew_len (fsOf r.1) r.2 st
    split
    · split
      · have h2 := seqChk_len (f := chk ed ka ks d (innerLoop r.1 il)) (m := lsz d) (pre := p) (l := kids r.2) (i := 0) (st := (isNew (fsOf r.1) r.2 st).2) fun l _ p st => chk_len ed ka ks d _ l p st
        omega
      · show len2 (isNew (fsOf r.1) r.2 st).2 ≤ _
        omega
    · show len2 st ≤ _
      omega
/-- what is asked of rows that are checked -/
def Pre : (d : Nat) → Row d → Prop
  | 0, r => nomatch r
  | d + 1, r => (r.1, fsOf r.1) ∈ ftab ∧ (∀ x ∈ (fsOf r.1).zip r.2, Nice x.1 x.2) ∧ r.2.length ≤ 1000 ∧ (kids r.2).length ≤ 1000 ∧ ∀ l ∈ kids r.2, l.length ≤ 1000 ∧ ∀ r' ∈ l, Pre d r'
abbrev cIP (K : PySem.W.Frag) : Addr := He.ga K "InvalidProgram"
/-- the refusal of a row -/
def Refuses (K : PySem.W.Frag) (C : Addr → Prop) (H : Hp) (part : Str) (path : List Int) (E : XK) : Prop := ∀ (dd t : Addr) (H' : Hp), Kp C H H' → H dd = none → H' dd = some (.xd [("path", .ref t), ("part", .str part)]) → SqT K H' t (path.map V.int) → E (.ref (cIP K)) (some dd) H'
def spCheck (K : PySem.W.Frag) : Nat → Sp
  | 0 => fun _ _ _ _ => False
  | d + 1 => fun vs H Q E => ∃ (p r t : Addr) (il : Bool) (H0 : Hp) (rows : List (Row d)) (xs : List V) (pre : List Int) (ed : Bool) (ka ks : List (Key × V)) (st : Sn) (a s e g dx : Addr), vs = [.ref p, .ref r, .ref t, .bl il] ∧ RC K H p ed ka ks st a s e g dx ∧
    H0 r = some (.lst xs) ∧ Same H0 H ∧ H0 e = none ∧ H0 g = none ∧ All2 (RowAt K H0 d) rows xs ∧ (∀ r ∈ rows, Pre d r) ∧ SqT K H t (pre.map V.int) ∧ pre.length + 2 * d ≤ 90 ∧ len2 st + lsz d rows ≤ 3000 ∧ t ≠ e ∧ t ≠ g ∧
    ((chk ed ka ks d il rows pre st).1 = none → ∀ H', Kp (fun b => b = e ∨ b = g) H H' → RC K H' p ed ka ks (chk ed ka ks d il rows pre st).2 a s e g dx → Q .non H') ∧
    (∀ path, (chk ed ka ks d il rows pre st).1 = some path → Refuses K (fun b => b = e ∨ b = g) H "rows" path E)
theorem cat_path {K : PySem.W.Frag} {H : Hp} {t0 t1 : Addr} {xs : List V} {y : V} {Q : VK} (h0 : SqT K H t0 xs) (h1 : H t1 = some (.tup [y])) (few : xs.length ≤ 1000) (k : ∀ H' tp, Same H H' → SqT K H' tp (xs ++ [y]) → (H' tp = some (.tup (xs ++ [y])) ∧ (tp = t1 ∨ H tp = none)) → Q (.ref tp) H') : rCatA K (.ref t0) (.ref t1) H Q := by
  refine ⟨t0, t1, xs, [y], rfl, rfl, h0, SqT.of h1, Nat.le_of_lt (Nat.lt_of_le_of_lt (Nat.add_le_add_right few 1) (by decide)), fun z => ?_, fun _ z => by simp at z, fun _ _ p np => ?_⟩
  · subst z
    exact k H t1 (Same.refl H) (SqT.of h1) ⟨h1, .inl rfl⟩
  · exact k _ p (Same.new np) (SqT.of upd_same) ⟨upd_same, .inr np⟩
theorem seq_drop {α : Type} {f : α → List Int → Sn → Option (List Int) × Sn} {pre : List Int} {l : List α} {i : Nat} {x : α} {st : Sn} (h : l[i]? = some x) : seqChk f pre (l.drop i) i st = (match f x (pre ++ [(i : Int)]) st with
    | (some p, st') => (some p, st')
    | (none, st') => seqChk f pre (l.drop (i + 1)) (i + 1) st') := by
  obtain ⟨lt, e⟩ := List.getElem?_eq_some_iff.mp h
  rw [List.drop_eq_getElem_cons lt, e]
  rfl
theorem sum_drop {α : Type} (m : α → Nat) {l : List α} {i : Nat} {x : α} (h : l[i]? = some x) : ((l.drop i).map m).sum = m x + ((l.drop (i + 1)).map m).sum := by
  obtain ⟨lt, e⟩ := List.getElem?_eq_some_iff.mp h
  rw [List.drop_eq_getElem_cons lt, e]
  simp
theorem RC.free {K : PySem.W.Frag} {H H8 : Hp} {p : Addr} {ed : Bool} {ka ks : List (Key × V)} {st8 : Sn} {a s e g dx d0 : Addr} (k : Kp (fun b => b = e ∨ b = g) H H8) (rc : RC K H8 p ed ka ks st8 a s e g dx) (nd : H8 d0 = none) : H d0 = none := by
  cases q : H d0 with
  | none => rfl
  | some o =>
    have z := k d0 o q (by
      rintro (z | z)
      · rw [z, rc.he] at nd; cases nd
      · rw [z, rc.hg] at nd; cases nd)
    rw [nd] at z
    cases z
theorem refused {K : PySem.W.Frag} {H H8 : Hp} {p : Addr} {ed : Bool} {ka ks : List (Key × V)} {st8 : Sn} {a s e g dx tp : Addr} {path : List Int} {E : XK} {part : Str} (k : Kp (fun b => b = e ∨ b = g) H H8) (rc : RC K H8 p ed ka ks st8 a s e g dx) (ht : SqT K H8 tp (path.map V.int))
    (r : Refuses K (fun b => b = e ∨ b = g) H part path E) (d0 : Addr) (H' : Hp) (nd : H8 d0 = none) (hd : H' d0 = some (.xd [("path", .ref tp), ("part", .str part)])) (oth : ∀ b, b ≠ d0 → H' b = H8 b) : E (.ref (cIP K)) (some d0) H' := by
  have S : Same H8 H' := fun b o h => by rw [oth b (ne_of_none h nd)]; exact h
  exact r d0 tp H' (k.trans (Kp.of S)) (RC.free k rc nd) hd (sameT S ht)
section
variable {P : Program} {w : World} {K : PySem.W.Frag} {mg : Str → Option Value} {base : Heap}
theorem ok_check_list {k0 d : Nat} {f : Addr} {fd : FuncData} (F : FnP K "check_list" "RowCheck.check_list" s_RowCheck_check_list f fd) (T : Tx w K mg) (h5 : 5 ≤ k0) (E_InvalidProgram : ErrDef P w K mg base CX0 1 "InvalidProgram" (cIP K) ["self", "part", "path"] ["part", "path"])
    (G_lists_of : Def P w K mg base CX0 1 "lists_of" p_lists_of (spListsOf K)) (G_may_stand : Def P w K mg base CX0 2 "may_stand" p_may_stand (spMay K)) (M_has_form : MDef P w K mg base CX0 4 (He.ga K "RowCheck") "has_form" p_RowCheck_has_form (spHasForm K))
    (M_is_new : MDef P w K mg base CX0 1 (He.ga K "RowCheck") "is_new" p_RowCheck_is_new (spIsNew K)) (M_check_list : MDef P w K mg base (L2.CX P w) k0 (He.ga K "RowCheck") "check_list" p_RowCheck_check_list (spCheck K d)) :
    FnOk P w K mg base (L2.CX P w) (k0 + 1) f fd p_RowCheck_check_list (spCheck K (d + 1)) := by
  refine F.ok sc_RowCheck_check_list (fun vs H Q E h => ?_) (fun cdv A outer s H vs Q E hr h => ?_)
  · obtain ⟨p, r, t, il, _, _, _, _, _, _, _, _, _, _, _, _, _, rfl, _⟩ := h
    rfl
  · obtain ⟨p, r, t, il, H0, rows, xs, pre, ed, ka, ks, st, a, s', e, g, dx, rfl, rc, hr0, S0, ne, ng, hp, prr, ht, fewp, fews, te, tg, kq, ke⟩ := h
    refine ⟨_, (pss_one (ps_for (passes_of rfl) rfl (pi_enum (by rfl) T.b_enumerate (pa_cons (pv 1) pa_nil)) (pg_tup (by rfl) (pgs_cons (pg_name (i := 4) sc_RowCheck_check_list.nd rfl (.inl rfl)) (pgs_cons (pg_name (i := 5) sc_RowCheck_check_list.nd rfl (.inl rfl)) pgs_nil))) (pss_cons (ps_set (i := 6) sc_RowCheck_check_list.nd rfl (.inl rfl) (pe_op op_catA (pv 2) (pe_tup (pa_cons (pv 4) pa_nil))))
      (pss_cons (ps_if (PW.pt (pw_or (pt_not (pt_val (pe_mth M_has_form (hr.mono (by omega)) pass0 (pv 0) (pa_cons (pv 5) pa_nil)))) (pw_or (pt_not (pt_val (pe_fn G_may_stand (hr.mono (by omega)) (by rfl) pass0 (pa_cons (pv 5) (pa_cons (pv 6) (pa_cons (pv 3) pa_nil)))))) (pw_or1 (pt_not (pt_val (pe_mth M_is_new (hr.mono (by omega)) pass0 (pv 0) (pa_cons (pv 5) pa_nil)))))))) (pss_one (ps_raise rfl (takes_of rfl rfl rfl rfl) (pmk_errL E_InvalidProgram (hr.mono (by omega)) (by rfl) pass0 (pa_cons pe_str (pa_cons (pv 6) pa_nil))))) pss_nil)
      (pss_cons (ps_set (i := 7) sc_RowCheck_check_list.nd rfl (.inl rfl) (pe_or (pe_cmpR op_eq (pe_ix ix_tup (pv 5) pe_int (fun _ _ => rfl)) pe_str (nomark _)) (pe_one (pe_and (pv 3) (pe_one (pe_cmpR op_ne (pe_ix ix_tup (pv 5) pe_int (fun _ _ => rfl)) pe_str (nomark _)))))))
      (pss_one (ps_for (passes_of rfl) rfl (pi_enum (by rfl) T.b_enumerate (pa_cons (pe_fn G_lists_of (hr.mono (by omega)) (by rfl) pass0 (pa_cons (pv 5) pa_nil)) pa_nil)) (pg_tup (by rfl) (pgs_cons (pg_name (i := 8) sc_RowCheck_check_list.nd rfl (.inl rfl)) (pgs_cons (pg_name (i := 9) sc_RowCheck_check_list.nd rfl (.inl rfl)) pgs_nil))) (pss_one (ps_expr (pe_mth M_check_list (hr.mono (by omega)) (passes_call (W := fun c d _ H => E c d H) (takes_of rfl rfl rfl rfl) (fun _ _ _ _ h => h)) (pv 0) (pa_cons (pv 9) (pa_cons (pe_op op_catA (pv 6) (pe_tup (pa_cons (pv 8) pa_nil))) (pa_cons (pv 7) pa_nil))))))))))))), ?_⟩
    cases d with
    | zero =>
      cases rows with
      | cons x _ => exact nomatch x
      | nil =>
        cases hp
        refine ⟨_, rfl, r, _, rfl, SqL.of (S0 _ _ hr0), ?_⟩
        refine for_it (walk_enum (K := K) (a := r) (xs := [])) (fun i σ' H' => H' = H) rfl (fun i σ' H' _ q => q ▸ SqL.of (S0 _ _ hr0)) (fun i x σ' H3 H4 hi q y => absurd hi (Nat.not_lt_zero _)) (fun σ' H' q => ?_)
        subst q
        exact kq rfl _ (Kp.refl _) rc
    | succ d =>
      have eT : chk ed ka ks (d + 1) il rows pre st = seqChk (oneChk ed ka ks (chk ed ka ks d) il) pre rows 0 st := rfl
      rw [eT] at kq ke
      have lT : lsz (d + 1) rows = (rows.map (rsz (d + 1))).sum := rfl
      have HC : ∀ {H' : Hp}, Kp (fun b => b = e ∨ b = g) H H' → Same H0 H' := fun k => Kp.base S0 k (by rintro c (rfl | rfl); exact ne; exact ng)
      refine ⟨_, rfl, r, _, rfl, SqL.of (S0 _ _ hr0), ?_⟩
      refine for_it (walk_enum (K := K) (a := r) (xs := xs)) (fun i σ' H' => ∃ (st1 : Sn) (y1 y2 y3 y4 y5 y6 : Option V), σ' = [some (.ref p), some (.ref r), some (.ref t), some (.bl il), y1, y2, y3, y4, y5, y6] ∧ Kp (fun b => b = e ∨ b = g) H H' ∧ RC K H' p ed ka ks st1 a s' e g dx ∧
          seqChk (oneChk ed ka ks (chk ed ka ks d) il) pre (rows.drop i) i st1 = seqChk (oneChk ed ka ks (chk ed ka ks d) il) pre rows 0 st ∧ len2 st1 + ((rows.drop i).map (rsz (d + 1))).sum ≤ 3000)
        ⟨st, _, _, _, _, _, _, rfl, Kp.refl _, rc, rfl, fews⟩ (fun i σ' H' _ q => ?_) (fun i x σ' H3 H4 hi q y => ?_) (fun σ' H' q => ?_)
      · obtain ⟨_, _, _, _, _, _, _, _, kp, _⟩ := q
        exact SqL.of (HC kp _ _ hr0)
      · obtain ⟨st1, y1, y2, y3, y4, y5, y6, rfl, kp, rc1, eq, fw⟩ := q
        obtain ⟨T1, num, rv, rfl, nT, rfl, hnum, hrv⟩ := y
        cases Option.some.inj hnum
        have hrv : xs[i]? = some rv := hrv
        obtain ⟨row, hrow, hra⟩ := hp.other hrv
        have pr := prr row (List.mem_of_getElem? hrow)
        obtain ⟨hf, nice, l1000, k1000, prk⟩ := id pr
        have eq := (seq_drop (f := oneChk ed ka ks (chk ed ka ks d) il) (pre := pre) (st := st1) hrow).symm.trans eq
        rw [sum_drop _ hrow] at fw
        have er : rsz (d + 1) row = 1 + ((kids row.2).map (lsz d)).sum := rfl
        have S4 : Same H3 (upd H3 T1 (.tup [.int (i : Nat), rv])) := Same.new nT
        refine ⟨T1, _, rfl, SqT.of upd_same, rfl, _, _, rfl, _, _, rfl, rfl, ?_⟩
        have kp4 : Kp (fun b => b = e ∨ b = g) H (upd H3 T1 (.tup [.int (i : Nat), rv])) := kp.trans (Kp.of S4)
        have rc4 := rc1.same S4
        generalize upd H3 T1 (.tup [.int (i : Nat), rv]) = H5 at kp4 rc4 ⊢
        have tH : ∀ {H' : Hp}, Kp (fun b => b = e ∨ b = g) H H' → SqT K H' t (pre.map V.int) := fun k => by
          rcases ht with (q | ⟨o, q⟩) | q
          · exact .inl (.inl (k _ _ q (by rintro (z | z); exact te z; exact tg z)))
          · exact .inl (.inr ⟨o, k _ _ q (by rintro (z | z); exact te z; exact tg z)⟩)
          · exact .inr q
        -- the path
        refine ⟨_, rfl, _, rfl, by show 1 ≤ sizeLine; decide, fun t1 n1 => ?_⟩
        have S5 : Same H5 (upd H5 t1 (.tup [.int (i : Nat)])) := Same.new n1
        have h1 : upd H5 t1 (.tup [.int (i : Nat)]) t1 = some (.tup [.int (i : Nat)]) := upd_same
        generalize upd H5 t1 (.tup [.int (i : Nat)]) = H6 at S5 h1 ⊢
        refine cat_path (tH (kp4.trans (Kp.of S5))) h1 (by rw [List.length_map]; omega) (fun H7 tp S7 htp hnew => ?_)
        have ep : pre.map V.int ++ [V.int (i : Nat)] = (pre ++ [(i : Int)]).map V.int := by simp
        rw [ep] at htp hnew
        have kp7 := (kp4.trans (Kp.of S5)).trans (Kp.of (C := fun b => b = e ∨ b = g) S7)
        have rc7 := (rc4.same S5).same S7
        have S07 := HC kp7
        have tpe : tp ≠ e := ne_of hnew.1 rc7.he (by intro z; cases z)
        have tpg : tp ≠ g := ne_of hnew.1 rc7.hg (by intro z; cases z)
        generalize epth : pre ++ [(i : Int)] = path at htp hnew eq
        have lpath : path.length + 2 * (d + 1) ≤ 91 := by rw [← epth, List.length_append]; simp; omega
        generalize eOut : seqChk (oneChk ed ka ks (chk ed ka ks d) il) pre rows 0 st = OUT at kq ke eq
        -- the form
        refine ⟨_, rfl, p, dx, _, rfl, rc7.ob, rfl, _, rfl, ?_⟩
        refine ⟨p, rv, d, H0, row, fsOf row.1, ed, ka, ks, st1, a, s', e, g, dx, rfl, rc7, hra, S07, hf, nice, l1000, fun H8 S8 => ?_⟩
        have kp8 := kp7.trans (Kp.of (C := fun b => b = e ∨ b = g) S8)
        have rc8 := rc7.same S8
        refine ⟨_, rfl, ?_⟩
        cases c1 : hasForm ed ka ks row.1 (fsOf row.1) row.2 with
        | false =>
          refine iteT ?_
          have e1 : oneChk ed ka ks (chk ed ka ks d) il row path st1 = (some path, st1) := by unfold oneChk; rw [c1]; rfl
          rw [e1] at eq
          exact ⟨_, rfl, rfl, refused kp8 rc8 (sameT S8 htp) (ke path (by rw [← eq]))⟩
        | true =>
        have hk := hasForm_kinds c1
        refine iteF ?_
        refine ⟨_, rfl, _, rfl, _, rfl, ?_⟩
        refine ⟨rv, tp, il, H0, d, row, fsOf row.1, path.map V.int, rfl, sameT S8 htp, by rw [List.length_map]; omega, hra, S07.trans S8, hf, hk, k1000, fun H9 S9 => ?_⟩
        have kp9 := kp8.trans (Kp.of (C := fun b => b = e ∨ b = g) S9)
        have rc9 := rc8.same S9
        refine ⟨_, rfl, ?_⟩
        rw [List.length_map]
        cases c2 : mayS row.1 path.length il (kids row.2).length with
        | false =>
          refine iteT ?_
          have e1 : oneChk ed ka ks (chk ed ka ks d) il row path st1 = (some path, st1) := by unfold oneChk; rw [c1, c2]; rfl
          rw [e1] at eq
          exact ⟨_, rfl, rfl, refused kp9 rc9 (sameT (S8.trans S9) htp) (ke path (by rw [← eq]))⟩
        | true =>
        refine iteF ?_
        refine ⟨_, rfl, p, dx, _, rfl, rc9.ob, rfl, _, rfl, ?_⟩
        have l2 : len2 st1 ≤ 3000 := by omega
        refine ⟨p, rv, d, H0, row, fsOf row.1, ed, ka, ks, st1, a, s', e, g, dx, rfl, rc9, hra, S07.trans (S8.trans S9), ne, ng, hf, hk, by unfold len2 at l2; omega, by unfold len2 at l2; omega, fun H10 k10 rc10 => ?_⟩
        have kp10 := kp9.trans k10
        have htp10 : SqT K H10 tp (path.map V.int) := SqT.of (k10 _ _ (S9 _ _ (S8 _ _ hnew.1)) (by rintro (z | z); exact tpe z; exact tpg z))
        have hnew10 : H10 tp = some (.tup (path.map V.int)) := k10 _ _ (S9 _ _ (S8 _ _ hnew.1)) (by rintro (z | z); exact tpe z; exact tpg z)
        refine ⟨_, rfl, ?_⟩
        have nl := isNew_len (fsOf row.1) row.2 st1
        cases c3 : (isNew (fsOf row.1) row.2 st1).1 with
        | false =>
          refine iteT ?_
          have e1 : oneChk ed ka ks (chk ed ka ks d) il row path st1 = (some path, (isNew (fsOf row.1) row.2 st1).2) := by unfold oneChk; rw [c1, c2, c3]; rfl
          rw [e1] at eq
          exact ⟨_, rfl, rfl, refused kp10 rc10 htp10 (ke path (by rw [← eq]))⟩
        | true =>
        refine iteF ?_
        have e1 : oneChk ed ka ks (chk ed ka ks d) il row path st1 = seqChk (chk ed ka ks d (innerLoop row.1 il)) path (kids row.2) 0 (isNew (fsOf row.1) row.2 st1).2 := by unfold oneChk; rw [c1, c2, c3]; rfl
        generalize (isNew (fsOf row.1) row.2 st1).2 = st2 at rc10 e1 nl
        have S010 := HC kp10
        obtain ⟨b, bs, rfl, hb, hpb⟩ := id hra
        have hb10 := sameT S010 hb
        refine ⟨_, rfl, b, _, _, .str row.1, rfl, rfl, hb10, at0, rfl, _, rfl, ?_⟩
        have three : (row.1 = "loop") ∨ (row.1 ≠ "loop" ∧ il = true) ∨ (row.1 ≠ "loop" ∧ il = false) := by
          by_cases c : row.1 = "loop"
          · exact .inl c
          · cases il
            · exact .inr (.inr ⟨c, rfl⟩)
            · exact .inr (.inl ⟨c, rfl⟩)
        rcases three with c4 | ⟨c4, hil⟩ | ⟨c4, hil⟩
        (refine iteT' (decide_eq_true (by rw [c4])) ?_
         rw [show V.bl true = V.bl (innerLoop row.1 il) from by unfold innerLoop; simp [c4]])
        rotate_left
        (refine iteF' (decide_eq_false fun z => c4 (by injection z)) ?_
         refine ⟨_, rfl, _, rfl, ?_⟩
         refine iteT' hil ?_
         refine ⟨_, rfl, b, _, _, .str row.1, rfl, rfl, hb10, at0, rfl, ?_⟩
         rw [show V.bl (!decide (V.str row.1 = V.str "both")) = V.bl (innerLoop row.1 il) from by
           have z : decide (V.str row.1 = V.str "both") = decide (row.1 = "both") := by simp
           unfold innerLoop
           rw [z]
           simp [c4, hil]])
        rotate_left
        (refine iteF' (decide_eq_false fun z => c4 (by injection z)) ?_
         refine ⟨_, rfl, _, rfl, ?_⟩
         refine iteF' hil ?_
         rw [show V.bl false = V.bl (innerLoop row.1 il) from by unfold innerLoop; simp [c4, hil]])
        rotate_left
        all_goals
          refine ⟨_, rfl, _, H0, d, row, fsOf row.1, rfl, hra, S010, hf, hk, k1000, fun H11 L ls S11 nL hL hls => ?_⟩
          have kp11 := kp10.trans (Kp.of (C := fun b => b = e ∨ b = g) S11)
          have rc11 := rc10.same S11
          have LC : ¬ (L = e ∨ L = g) := by
            rintro (z | z)
            · rw [z, rc10.he] at nL; cases nL
            · rw [z, rc10.hg] at nL; cases nL
          refine ⟨L, _, rfl, SqL.of hL, ?_⟩
          refine for_it (walk_enum (K := K) (a := L) (xs := ls)) (fun j σ' H' => ∃ (st3 : Sn) (y8 y9 : Option V), σ' = [some (.ref p), some (.ref r), some (.ref t), some (.bl il), some (.int (i : Nat)), some (.ref b), some (.ref tp), some (.bl (innerLoop row.1 il)), y8, y9] ∧ Kp (fun b => b = e ∨ b = g) H11 H' ∧ RC K H' p ed ka ks st3 a s' e g dx ∧
              seqChk (chk ed ka ks d (innerLoop row.1 il)) path ((kids row.2).drop j) j st3 = oneChk ed ka ks (chk ed ka ks d) il row path st1 ∧ len2 st3 + (((kids row.2).drop j).map (lsz d)).sum + ((rows.drop (i + 1)).map (rsz (d + 1))).sum ≤ 3000)
            ⟨st2, _, _, rfl, Kp.refl _, rc11, e1.symm, by rw [List.drop_zero]; omega⟩ (fun j σ' H' _ q => ?_) (fun j x σ' H12 H13 hj q y => ?_) (fun σ' H' q => ?_)
          · obtain ⟨_, _, _, _, kp, _⟩ := q
            exact SqL.of (kp _ _ hL LC)
          · obtain ⟨st3, y8, y9, rfl, kp12, rc12, eq3, fw3⟩ := q
            obtain ⟨T2, num2, lv, rfl, nT2, rfl, hnum2, hlv⟩ := y
            cases Option.some.inj hnum2
            have hlv : ls[j]? = some lv := hlv
            obtain ⟨l, hl, c, cs, rfl, hc, hcs⟩ := hls.other hlv
            have eq3 := (seq_drop (f := chk ed ka ks d (innerLoop row.1 il)) (pre := path) (st := st3) hl).symm.trans eq3
            rw [sum_drop _ hl] at fw3
            obtain ⟨l1, l3⟩ := prk l (List.mem_of_getElem? hl)
            have S12 : Same H12 (upd H12 T2 (.tup [.int (j : Nat), .ref c])) := Same.new nT2
            refine ⟨T2, _, rfl, SqT.of upd_same, rfl, _, _, rfl, _, _, rfl, rfl, ?_⟩
            have kp13 := (kp11.trans kp12).trans (Kp.of (C := fun b => b = e ∨ b = g) S12)
            have rc13 := rc12.same S12
            have tp13 : upd H12 T2 (.tup [.int (j : Nat), .ref c]) tp = some (.tup (path.map V.int)) := S12 _ _ (kp12 _ _ (S11 _ _ hnew10) (by rintro (z | z); exact tpe z; exact tpg z))
            have k1113 := kp12.trans (Kp.of (C := fun b => b = e ∨ b = g) S12)
            generalize upd H12 T2 (.tup [.int (j : Nat), .ref c]) = H14 at kp13 rc13 tp13 k1113 ⊢
            refine ⟨_, rfl, p, dx, _, rfl, rc13.ob, rfl, _, rfl, _, rfl, _, rfl, by show 1 ≤ sizeLine; decide, fun t3 n3 => ?_⟩
            have S15 : Same H14 (upd H14 t3 (.tup [.int (j : Nat)])) := Same.new n3
            have h3 : upd H14 t3 (.tup [.int (j : Nat)]) t3 = some (.tup [.int (j : Nat)]) := upd_same
            generalize upd H14 t3 (.tup [.int (j : Nat)]) = H15 at S15 h3 ⊢
            refine cat_path (SqT.of (S15 _ _ tp13)) h3 (by rw [List.length_map]; omega) (fun H16 tq S16 htq hnew16 => ?_)
            have eq2 : path.map V.int ++ [V.int (j : Nat)] = (path ++ [(j : Int)]).map V.int := by simp
            rw [eq2] at htq hnew16
            have kp16 := (kp13.trans (Kp.of (C := fun b => b = e ∨ b = g) S15)).trans (Kp.of (C := fun b => b = e ∨ b = g) S16)
            have rc16 := (rc13.same S15).same S16
            have tqe : tq ≠ e := ne_of hnew16.1 rc16.he (by intro z; cases z)
            have tqg : tq ≠ g := ne_of hnew16.1 rc16.hg (by intro z; cases z)
            refine ⟨_, rfl, ?_⟩
            refine ⟨p, c, tq, _, H0, l, cs, path ++ [(j : Int)], ed, ka, ks, st3, a, s', e, g, dx, rfl, rc16, hc, HC kp16, ne, ng, hcs, l3, htq, by rw [List.length_append, List.length_singleton]; omega, by omega, tqe, tqg, fun hn H17 k17 rc17 => ?_, fun path' hp' => ?_⟩
            · have cl := chk_len ed ka ks d (innerLoop row.1 il) l (path ++ [(j : Int)]) st3
              generalize chk ed ka ks d (innerLoop row.1 il) l (path ++ [(j : Int)]) st3 = RES at hn rc17 eq3 cl
              obtain ⟨o, st4⟩ := RES
              simp only at hn rc17 cl
              subst hn
              exact ⟨st4, _, _, rfl, (k1113.trans ((Kp.of S15).trans (Kp.of S16))).trans k17, rc17, eq3, by omega⟩
            · generalize chk ed ka ks d (innerLoop row.1 il) l (path ++ [(j : Int)]) st3 = RES at hp' eq3
              obtain ⟨o, st4⟩ := RES
              simp only at hp'
              subst hp'
              rw [← eq3] at eq
              intro dd t' H' kk nd hd htt
              exact ke path' (by rw [← eq]) dd t' H' (kp16.trans kk) (RC.free kp16 rc16 nd) hd htt
          · obtain ⟨st3, y8, y9, rfl, kp12, rc12, eq3, fw3⟩ := q
            have z : (kids row.2).drop ls.length = [] := List.drop_of_length_le (by rw [hls.len]; exact Nat.le_refl _)
            rw [z] at eq3 fw3
            have eq3 : (none, st3) = _ := eq3
            rw [← eq3] at eq
            exact ⟨st3, _, _, _, _, _, _, rfl, kp11.trans kp12, rc12, eq, by rw [List.map_nil, List.sum_nil] at fw3; omega⟩
      · obtain ⟨st1, y1, y2, y3, y4, y5, y6, rfl, kp, rc1, eq, fw⟩ := q
        have z : rows.drop xs.length = [] := List.drop_of_length_le (by rw [hp.len]; exact Nat.le_refl _)
        rw [show (List.drop (α := Str × List (Pt (Row d))) xs.length rows) = [] from z] at eq
        have e1 : seqChk (oneChk ed ka ks (chk ed ka ks d) il) pre rows 0 st = (none, st1) := eq.symm
        rw [e1] at kq
        exact kq rfl H' kp rc1
end
end OR

set_option Elab.async false
set_option maxRecDepth 100000
set_option maxHeartbeats 4000000
set_option linter.all false
namespace OR
open PySem PySem.Spec PyProof.Rows L2 TS2
def spRCinit (K : PySem.W.Frag) : Sp := fun vs H Q _ => ∃ (p dx a s : Addr) (b : Bool), vs = [.ref p, .ref a, .ref s, .bl b] ∧ H p = some (.ins (He.ga K "RowCheck") dx []) ∧
  ∀ (H' : Hp) (e g : Addr), Kp (· = p) H H' → H' p = some (.ins (He.ga K "RowCheck") dx (rcF a s b e g)) → H' e = some (.dK []) → H' g = some (.dK []) → e ≠ g → H e = none → H g = none → Q .non H'
def spCheckRows (K : PySem.W.Frag) (d : Nat) : Sp := fun vs H Q E => ∃ (p : Addr) (v : V) (ed : Bool) (ka ks : List (Key × V)) (st : Sn) (a s e g dx : Addr), vs = [.ref p, v] ∧ RC K H p ed ka ks st a s e g dx ∧
  ((NotA K H v "list" ∧ Refuses K (fun b => b = e ∨ b = g) H "rows" [] E) ∨ ∃ (r : Addr) (H0 : Hp) (rows : List (Row d)) (xs : List V), v = .ref r ∧ H0 r = some (.lst xs) ∧ Same H0 H ∧ H0 e = none ∧ H0 g = none ∧ All2 (RowAt K H0 d) rows xs ∧ (∀ r ∈ rows, Pre d r) ∧ d ≤ 40 ∧ len2 st + lsz d rows ≤ 3000 ∧
    ((chk ed ka ks d false rows [] st).1 = none → ∀ H', Kp (fun b => b = e ∨ b = g) H H' → RC K H' p ed ka ks (chk ed ka ks d false rows [] st).2 a s e g dx → Q .non H') ∧
    (∀ path, (chk ed ka ks d false rows [] st).1 = some path → Refuses K (fun b => b = e ∨ b = g) H "rows" path E))
section
variable {P : Program} {w : World} {K : PySem.W.Frag} {mg : Str → Option Value} {base : Heap}
theorem ok_RCinit {f : Addr} {fd : FuncData} (F : FnP K "__init__" "RowCheck.__init__" s_RowCheck___init__ f fd) (T : Tx w K mg) : FnOk P w K mg base CX0 1 f fd p_RowCheck___init__ (spRCinit K) := by
  refine F.ok sc_RowCheck___init__ (fun vs H Q E h => ?_) (fun cdv A outer s H vs Q E hr h => ?_)
  · obtain ⟨p, dx, v, w, b, rfl, _⟩ := h
    rfl
  · obtain ⟨p, dx, a, s', b, rfl, hp, k⟩ := h
    refine ⟨_, PSs.nox (pss_cons (ps_fld (pv 0) (pv 1) rfl)
      (pss_cons (ps_fld (pv 0) (pv 2) rfl)
      (pss_cons (ps_fld (pv 0) (pv 3) rfl)
      (pss_cons (ps_fld (pv 0) pe_dnewK rfl)
      (pss_one (ps_fld (pv 0) pe_dnewK rfl)))))), ?_⟩
    refine ⟨_, rfl, _, rfl, p, _, dx, [], rfl, hp, T.c_RowCheck, T.n_RowCheck_ask_table, (by show 0 < 1000; decide), ?_⟩
    refine ⟨_, rfl, _, rfl, p, _, dx, _, rfl, upd_same, T.c_RowCheck, T.n_RowCheck_signal_table, (by show 1 < 1000; decide), ?_⟩
    refine ⟨_, rfl, _, rfl, p, _, dx, _, rfl, upd_same, T.c_RowCheck, T.n_RowCheck_with_edits, (by show 2 < 1000; decide), ?_⟩
    intro e nd
    have npd : p ≠ e := fun z => by rw [← z, upd_same] at nd; cases nd
    refine ⟨_, rfl, p, _, dx, _, rfl, (by rw [upd_ne npd]; exact upd_same), T.c_RowCheck, T.n_RowCheck_seen_edits, (by show 3 < 1000; decide), ?_⟩
    intro g nd2
    have npd2 : p ≠ g := fun z => by rw [← z, upd_same] at nd2; cases nd2
    have eg : e ≠ g := fun z => by rw [← z, upd_ne npd.symm, upd_same] at nd2; cases nd2
    have ne : H e = none := by rw [upd_ne npd.symm, upd_ne npd.symm, upd_ne npd.symm] at nd; exact nd
    have ng : H g = none := by
      rw [upd_ne npd2.symm, upd_ne eg.symm, upd_ne npd2.symm, upd_ne npd2.symm, upd_ne npd2.symm] at nd2
      exact nd2
    refine ⟨_, rfl, p, _, dx, _, rfl, (by rw [upd_ne npd2]; exact upd_same), T.c_RowCheck, T.n_RowCheck_seen_gates, (by show 4 < 1000; decide), ?_⟩
    refine k _ e g (fun b o hb nb => ?_) upd_same (by rw [upd_ne npd.symm, upd_ne eg, upd_ne npd.symm, upd_same]) (by rw [upd_ne npd2.symm, upd_same]) eg ne ng
    rw [upd_ne nb, upd_ne (ne_of_none hb ng), upd_ne nb, upd_ne (ne_of_none hb ne), upd_ne nb, upd_ne nb, upd_ne nb]
    exact hb
theorem ok_check_rows {k0 d : Nat} {f : Addr} {fd : FuncData} (F : FnP K "check_rows" "RowCheck.check_rows" s_RowCheck_check_rows f fd) (T : Tx w K mg) (h1 : 2 ≤ k0) (E_InvalidProgram : ErrDef P w K mg base CX0 1 "InvalidProgram" (cIP K) ["self", "part", "path"] ["part", "path"])
    (M_check_list : MDef P w K mg base (L2.CX P w) k0 (He.ga K "RowCheck") "check_list" p_RowCheck_check_list (spCheck K (d + 1))) : FnOk P w K mg base (L2.CX P w) (k0 + 1) f fd p_RowCheck_check_rows (spCheckRows K d) := by
  refine F.ok sc_RowCheck_check_rows (fun vs H Q E h => ?_) (fun cdv A outer s H vs Q E hr h => ?_)
  · obtain ⟨p, v, _, _, _, _, _, _, _, _, _, rfl, _⟩ := h
    rfl
  · obtain ⟨p, v, ed, ka, ks, st, a, s', e, g, dx, rfl, rc, h⟩ := h
    refine ⟨_, (pss_cons (ps_if (pt_not (pt_val (pe_callB call_isi (by rfl) T.b_isinstance (by decide +kernel) (pa_cons (pv 1) (pa_cons (pe_bltn (v := .ty "list") (u := .type "list") (by rfl) T.b_list (by decide +kernel) rfl) pa_nil))))) (pss_one (ps_raise rfl (takes_of rfl rfl rfl rfl) (pmk_errL E_InvalidProgram (hr.mono (by omega)) (by rfl) pass0 (pa_cons pe_str (pa_cons (pe_tup pa_nil) pa_nil))))) pss_nil)
      (pss_one (ps_expr (pe_mth M_check_list (hr.mono (by omega)) (passes_call (W := fun c d _ H => E c d H) (takes_of rfl rfl rfl rfl) (fun _ _ _ _ h => h)) (pv 0) (pa_cons (pv 1) (pa_cons (pe_tup pa_nil) (pa_cons pe_bl pa_nil))))))), ?_⟩
    rcases h with ⟨⟨ty, n1, n2⟩, ke⟩ | ⟨r, H0, rows, xs, rfl, hr0, S0, ne, ng, hp, prr, fd, few, kq, ke⟩
    · refine ⟨_, rfl, v, .ty "list", _, _, false, rfl, .ty _, n1, n2, _, rfl, ?_⟩
      refine iteT ?_
      refine ⟨by show 0 ≤ sizeLine; decide, fun t nt => ?_⟩
      exact ⟨rfl, refused (path := []) (Kp.of (Same.new nt)) (rc.same (Same.new nt)) (SqT.of upd_same) ke⟩
    · refine ⟨_, rfl, .ref r, .ty "list", _, _, true, rfl, .ty _, tyL (SqL.of (S0 _ _ hr0)), kit_ty (by decide +kernel), _, rfl, ?_⟩
      refine iteF ?_
      refine ⟨_, rfl, p, dx, _, rfl, rc.ob, rfl, _, rfl, by show 0 ≤ sizeLine; decide, fun t nt => ?_⟩
      have S1 : Same H (upd H t (.tup [])) := Same.new nt
      have ht : upd H t (.tup []) t = some (.tup []) := upd_same
      generalize upd H t (.tup []) = H1 at S1 ht ⊢
      have rc1 := rc.same S1
      have hd90 : ([] : List Int).length + 2 * d ≤ 90 := by
        show 0 + 2 * d ≤ 90
        omega
      refine ⟨p, r, t, false, H0, rows, xs, [], ed, ka, ks, st, a, s', e, g, dx, rfl, rc1, hr0, S0.trans S1, ne, ng, hp, prr, SqT.of ht, hd90, few, ne_of ht rc1.he (by intro z; cases z), ne_of ht rc1.hg (by intro z; cases z), fun hn H' k' rc' => kq hn H' ((Kp.of S1).trans k') rc', fun path hp' dd t' H' kk nd hd htt => ke path hp' dd t' H' ((Kp.of S1).trans kk) (S1.free nd) hd htt⟩
end
end OR

set_option Elab.async false
set_option maxRecDepth 100000
set_option maxHeartbeats 4000000
set_option linter.all false
namespace OR
open PySem PySem.Spec PyProof.Rows L2 TS2
def planF (a b c d e f : Addr) : List (Str × V) := [("flat", .ref a), ("places", .ref b), ("behind", .ref c), ("entries", .ref d), ("sides", .ref e), ("starts", .ref f)]
/-- the six lists of a plan -/
abbrev C6 (a1 a2 a3 a4 a5 a6 : Addr) : Addr → Prop := fun b => b = a1 ∨ b = a2 ∨ b = a3 ∨ b = a4 ∨ b = a5 ∨ b = a6
structure PL (K : PySem.W.Frag) (H : Hp) (p dx a1 a2 a3 a4 a5 a6 : Addr) (F Pa B E S T : List V) : Prop where
  ob : H p = some (.ins (He.ga K "Plan") dx (planF a1 a2 a3 a4 a5 a6))
  h1 : H a1 = some (.lst F)
  h2 : H a2 = some (.lst Pa)
  h3 : H a3 = some (.lst B)
  h4 : H a4 = some (.lst E)
  h5 : H a5 = some (.lst S)
  h6 : H a6 = some (.lst T)
  nd : [a1, a2, a3, a4, a5, a6].Nodup
section
variable {K : PySem.W.Frag} {H H' : Hp} {p dx a1 a2 a3 a4 a5 a6 : Addr} {F Pa B E S T : List V}
theorem PL.same (c : PL K H p dx a1 a2 a3 a4 a5 a6 F Pa B E S T) (s : Same H H') : PL K H' p dx a1 a2 a3 a4 a5 a6 F Pa B E S T := ⟨s _ _ c.ob, s _ _ c.h1, s _ _ c.h2, s _ _ c.h3, s _ _ c.h4, s _ _ c.h5, s _ _ c.h6, c.nd⟩
theorem PL.np (c : PL K H p dx a1 a2 a3 a4 a5 a6 F Pa B E S T) : p ≠ a1 ∧ p ≠ a2 ∧ p ≠ a3 ∧ p ≠ a4 ∧ p ≠ a5 ∧ p ≠ a6 :=
  ⟨ne_of c.ob c.h1 (by intro z; cases z), ne_of c.ob c.h2 (by intro z; cases z), ne_of c.ob c.h3 (by intro z; cases z), ne_of c.ob c.h4 (by intro z; cases z), ne_of c.ob c.h5 (by intro z; cases z), ne_of c.ob c.h6 (by intro z; cases z)⟩
theorem PL.ns (c : PL K H p dx a1 a2 a3 a4 a5 a6 F Pa B E S T) : (a1 ≠ a2 ∧ a1 ≠ a3 ∧ a1 ≠ a4 ∧ a1 ≠ a5 ∧ a1 ≠ a6) ∧ (a2 ≠ a3 ∧ a2 ≠ a4 ∧ a2 ≠ a5 ∧ a2 ≠ a6) ∧ (a3 ≠ a4 ∧ a3 ≠ a5 ∧ a3 ≠ a6) ∧ (a4 ≠ a5 ∧ a4 ≠ a6) ∧ a5 ≠ a6 := by
  have n := c.nd
  simp only [List.nodup_cons, List.mem_cons, List.not_mem_nil, or_false, not_or, List.nodup_nil, and_true] at n
  obtain ⟨n1, n2, n3, n4, n5, _⟩ := n
  exact ⟨n1, n2, n3, n4, n5⟩
theorem PL.put1 (c : PL K H p dx a1 a2 a3 a4 a5 a6 F Pa B E S T) (X : List V) : PL K (upd H a1 (.lst X)) p dx a1 a2 a3 a4 a5 a6 X Pa B E S T := by
  obtain ⟨⟨q1, q2, q3, q4, q5⟩, _⟩ := c.ns
  exact ⟨by rw [upd_ne c.np.1]; exact c.ob, upd_same, by rw [upd_ne q1.symm]; exact c.h2, by rw [upd_ne q2.symm]; exact c.h3, by rw [upd_ne q3.symm]; exact c.h4, by rw [upd_ne q4.symm]; exact c.h5, by rw [upd_ne q5.symm]; exact c.h6, c.nd⟩
theorem PL.put2 (c : PL K H p dx a1 a2 a3 a4 a5 a6 F Pa B E S T) (X : List V) : PL K (upd H a2 (.lst X)) p dx a1 a2 a3 a4 a5 a6 F X B E S T := by
  obtain ⟨⟨q1, _⟩, ⟨q2, q3, q4, q5⟩, _⟩ := c.ns
  exact ⟨by rw [upd_ne c.np.2.1]; exact c.ob, by rw [upd_ne q1]; exact c.h1, upd_same, by rw [upd_ne q2.symm]; exact c.h3, by rw [upd_ne q3.symm]; exact c.h4, by rw [upd_ne q4.symm]; exact c.h5, by rw [upd_ne q5.symm]; exact c.h6, c.nd⟩
theorem PL.put3 (c : PL K H p dx a1 a2 a3 a4 a5 a6 F Pa B E S T) (X : List V) : PL K (upd H a3 (.lst X)) p dx a1 a2 a3 a4 a5 a6 F Pa X E S T := by
  obtain ⟨⟨_, q1, _⟩, ⟨q2, _⟩, ⟨q3, q4, q5⟩, _⟩ := c.ns
  exact ⟨by rw [upd_ne c.np.2.2.1]; exact c.ob, by rw [upd_ne q1]; exact c.h1, by rw [upd_ne q2]; exact c.h2, upd_same, by rw [upd_ne q3.symm]; exact c.h4, by rw [upd_ne q4.symm]; exact c.h5, by rw [upd_ne q5.symm]; exact c.h6, c.nd⟩
theorem PL.put4 (c : PL K H p dx a1 a2 a3 a4 a5 a6 F Pa B E S T) (X : List V) : PL K (upd H a4 (.lst X)) p dx a1 a2 a3 a4 a5 a6 F Pa B X S T := by
  obtain ⟨⟨_, _, q1, _⟩, ⟨_, q2, _⟩, ⟨q3, _⟩, ⟨q4, q5⟩, _⟩ := c.ns
  exact ⟨by rw [upd_ne c.np.2.2.2.1]; exact c.ob, by rw [upd_ne q1]; exact c.h1, by rw [upd_ne q2]; exact c.h2, by rw [upd_ne q3]; exact c.h3, upd_same, by rw [upd_ne q4.symm]; exact c.h5, by rw [upd_ne q5.symm]; exact c.h6, c.nd⟩
theorem PL.put5 (c : PL K H p dx a1 a2 a3 a4 a5 a6 F Pa B E S T) (X : List V) : PL K (upd H a5 (.lst X)) p dx a1 a2 a3 a4 a5 a6 F Pa B E X T := by
  obtain ⟨⟨_, _, _, q1, _⟩, ⟨_, _, q2, _⟩, ⟨_, q3, _⟩, ⟨q4, _⟩, q5⟩ := c.ns
  exact ⟨by rw [upd_ne c.np.2.2.2.2.1]; exact c.ob, by rw [upd_ne q1]; exact c.h1, by rw [upd_ne q2]; exact c.h2, by rw [upd_ne q3]; exact c.h3, by rw [upd_ne q4]; exact c.h4, upd_same, by rw [upd_ne q5.symm]; exact c.h6, c.nd⟩
theorem PL.put6 (c : PL K H p dx a1 a2 a3 a4 a5 a6 F Pa B E S T) (X : List V) : PL K (upd H a6 (.lst X)) p dx a1 a2 a3 a4 a5 a6 F Pa B E S X := by
  obtain ⟨⟨_, _, _, _, q1⟩, ⟨_, _, _, q2⟩, ⟨_, _, q3⟩, ⟨_, q4⟩, q5⟩ := c.ns
  exact ⟨by rw [upd_ne c.np.2.2.2.2.2]; exact c.ob, by rw [upd_ne q1]; exact c.h1, by rw [upd_ne q2]; exact c.h2, by rw [upd_ne q3]; exact c.h3, by rw [upd_ne q4]; exact c.h4, by rw [upd_ne q5]; exact c.h5, upd_same, c.nd⟩
/-- another object is written -/
theorem PL.other (c : PL K H p dx a1 a2 a3 a4 a5 a6 F Pa B E S T) {b : Addr} {o : HO} (n : ¬ C6 a1 a2 a3 a4 a5 a6 b) (np : b ≠ p) : PL K (upd H b o) p dx a1 a2 a3 a4 a5 a6 F Pa B E S T :=
  ⟨by rw [upd_ne np.symm]; exact c.ob, by rw [upd_ne (fun z => n (.inl z.symm))]; exact c.h1, by rw [upd_ne (fun z => n (.inr (.inl z.symm)))]; exact c.h2, by rw [upd_ne (fun z => n (.inr (.inr (.inl z.symm))))]; exact c.h3, by rw [upd_ne (fun z => n (.inr (.inr (.inr (.inl z.symm)))))]; exact c.h4,
    by rw [upd_ne (fun z => n (.inr (.inr (.inr (.inr (.inl z.symm))))))]; exact c.h5, by rw [upd_ne (fun z => n (.inr (.inr (.inr (.inr (.inr z.symm))))))]; exact c.h6, c.nd⟩
theorem PL.new (c : PL K H p dx a1 a2 a3 a4 a5 a6 F Pa B E S T) {b : Addr} (n : H b = none) : ¬ C6 a1 a2 a3 a4 a5 a6 b := by
  rintro (z | z | z | z | z | z)
  · rw [z, c.h1] at n; cases n
  · rw [z, c.h2] at n; cases n
  · rw [z, c.h3] at n; cases n
  · rw [z, c.h4] at n; cases n
  · rw [z, c.h5] at n; cases n
  · rw [z, c.h6] at n; cases n
end
/-- a row of any depth -/
abbrev AnyRow : Type := Σ e : Nat, Row (e + 1)
def flatR : (d : Nat) → Row d → List AnyRow
  | 0, r => nomatch r
  | d + 1, r => ⟨d, r⟩ :: ((kids r.2).map fun l => (l.map (flatR d)).flatten).flatten
def flatL (d : Nat) (rows : List (Row d)) : List AnyRow := (rows.map (flatR d)).flatten
def AnyAt (K : PySem.W.Frag) (H : Hp) (x : AnyRow) (v : V) : Prop := RowAt K H (x.1 + 1) x.2 v
def IsPaths (H : Hp) (Pa : List V) : Prop := ∀ v ∈ Pa, ∃ (b : Addr) (ns : List Int), v = .ref b ∧ H b = some (.tup (ns.map V.int))
theorem flat_len : ∀ (d : Nat) (r : Row d), (flatR d r).length = rsz d r
  | 0, r => nomatch r
  | d + 1, r => by
    have ih : ∀ l : List (Row d), ((l.map (flatR d)).flatten).length = lsz d l := fun l => by
      unfold lsz
      rw [List.length_flatten, List.map_map]
      congr 1
      refine List.map_congr_left fun x _ => ?_
      exact flat_len d x
    show (((kids r.2).map fun l => (l.map (flatR d)).flatten).flatten).length + 1 = 1 + ((kids r.2).map fun l => (l.map (rsz d)).sum).sum
    rw [List.length_flatten, List.map_map, Nat.add_comm]
    congr 2
    refine List.map_congr_left fun l _ => ?_
    exact ih l
theorem flatL_len (d : Nat) (l : List (Row d)) : (flatL d l).length = lsz d l := by
  unfold flatL lsz
  rw [List.length_flatten, List.map_map]
  congr 1
  refine List.map_congr_left fun x _ => ?_
  exact flat_len d x
/-- what the laying of rows leaves: more rows, their paths, longer lists -/
def Laid (K : PySem.W.Frag) (H0 H H' : Hp) (p dx a1 a2 a3 a4 a5 a6 : Addr) (F Pa E S T : List V) (fl : List AnyRow) : Prop :=
  ∃ (F2 Pa2 B' E2 S2 T' : List V), Kp (C6 a1 a2 a3 a4 a5 a6) H H' ∧ PL K H' p dx a1 a2 a3 a4 a5 a6 (F ++ F2) (Pa ++ Pa2) B' (E ++ E2) (S ++ S2) T' ∧ All2 (AnyAt K H0) fl F2 ∧ Pa2.length = F2.length ∧ B'.length = F.length + F2.length ∧ E2.length = F2.length ∧ S2.length = F2.length ∧ IsPaths H' Pa2 ∧ T'.length ≤ T.length + 1000 * F2.length
def Room6 (F Pa B E S T : List V) (n : Nat) : Prop := Pa.length = F.length ∧ B.length = F.length ∧ E.length = F.length ∧ S.length = F.length ∧ F.length + n ≤ 3000 ∧ T.length + 1000 * n ≤ 4000000
def spEnd (K : PySem.W.Frag) : Sp := fun vs H Q _ => ∃ (v x y : V) (d : Nat) (r : Row (d + 1)), vs = [v, x, y] ∧ RowAt K H (d + 1) r v ∧ ∀ z, Q z H
def spLayRow (K : PySem.W.Frag) : Nat → Sp
  | 0 => fun _ _ _ _ => False
  | d + 1 => fun vs H Q _ => ∃ (p tp : Addr) (v vb vx : V) (H0 : Hp) (r : Row (d + 1)) (dx a1 a2 a3 a4 a5 a6 : Addr) (F Pa B E S T : List V) (ns : List Int), vs = [.ref p, v, .ref tp, vb, vx] ∧ PL K H p dx a1 a2 a3 a4 a5 a6 F Pa B E S T ∧ Room6 F Pa B E S T (rsz (d + 1) r) ∧
    RowAt K H0 (d + 1) r v ∧ Same H0 H ∧ Sep H0 (C6 a1 a2 a3 a4 a5 a6) ∧ Shape (d + 1) r ∧ H tp = some (.tup (ns.map V.int)) ∧ ns.length + 2 * d + 1 ≤ 90 ∧ ∀ H', Laid K H0 H H' p dx a1 a2 a3 a4 a5 a6 F Pa E S T (flatR (d + 1) r) → Q .non H'
def spLayList (K : PySem.W.Frag) : Nat → Sp
  | 0 => fun _ _ _ _ => False
  | d + 1 => fun vs H Q _ => ∃ (p ra tp : Addr) (vb vx : V) (H0 : Hp) (rows : List (Row d)) (xs : List V) (dx a1 a2 a3 a4 a5 a6 : Addr) (F Pa B E S T : List V) (ns : List Int), vs = [.ref p, .ref ra, .ref tp, vb, vx] ∧ PL K H p dx a1 a2 a3 a4 a5 a6 F Pa B E S T ∧ Room6 F Pa B E S T (lsz d rows) ∧
    H0 ra = some (.lst xs) ∧ All2 (RowAt K H0 d) rows xs ∧ Same H0 H ∧ Sep H0 (C6 a1 a2 a3 a4 a5 a6) ∧ (∀ r ∈ rows, Shape d r) ∧ H tp = some (.tup (ns.map V.int)) ∧ ns.length + 2 * d ≤ 90 ∧ ∀ H', Laid K H0 H H' p dx a1 a2 a3 a4 a5 a6 F Pa E S T (flatL d rows) → Q .non H'
section
variable {P : Program} {w : World} {K : PySem.W.Frag} {mg : Str → Option Value} {base : Heap}
theorem ok_end_within {f : Addr} {fd : FuncData} (F : FnP K "end_within" "end_within" s_end_within f fd) (T : Tx w K mg) : FnOk P w K mg base CX0 1 f fd p_end_within (spEnd K) := by
  refine F.ok sc_end_within (fun vs H Q E h => ?_) (fun cdv A outer s H vs Q E hr h => ?_)
  · obtain ⟨v, x, y, _, _, rfl, _⟩ := h
    rfl
  · obtain ⟨v, x, y, d, r, rfl, ⟨a, vs, rfl, ha, _⟩, k⟩ := h
    obtain ⟨t1, mTHROUGH⟩ := T.m_THROUGH
    refine ⟨_, PSs.nox (pss_cons (ps_if (pt_cmpR op_eq (pe_ix ix_tup (pv 0) pe_int (fun _ _ => rfl)) pe_str (nomark _)) (pss_one (ps_ret (pv 1))) pss_nil)
      (pss_cons (ps_if (pt_cmpR op_eq (pe_ix ix_tup (pv 0) pe_int (fun _ _ => rfl)) pe_str (nomark _)) (pss_one (ps_ret (pe_glob (by rfl) mTHROUGH (show RelV (.int (-1)) _ from ⟨_, rfl⟩)))) pss_nil)
      (pss_one (ps_ret (pv 2))))), ?_⟩
    refine ⟨_, rfl, a, _, _, .str r.1, rfl, rfl, ha, at0, rfl, _, rfl, ?_⟩
    refine ite2 (fun _ => ⟨_, rfl, k _⟩) fun _ => ?_
    refine ⟨_, rfl, a, _, _, .str r.1, rfl, rfl, ha, at0, rfl, _, rfl, ?_⟩
    exact ite2 (fun _ => k _) fun _ => ⟨_, rfl, k _⟩
end
end OR

set_option Elab.async false
set_option maxRecDepth 100000
set_option maxHeartbeats 8000000
set_option linter.all false
namespace OR
open PySem PySem.Spec PyProof.Rows L2 TS2
theorem at_mid {X Y : List V} {v : V} {n : Nat} (h : X.length = n) : atI ((X ++ [v]) ++ Y) (n : Int) = some v := by
  refine atI_nat ?_
  rw [List.append_assoc, List.getElem?_append_right (by omega), h]
  simp
theorem IsPaths.put {H : Hp} {Pa : List V} {a : Addr} {xs ys : List V} (h : IsPaths H Pa) (e : H a = some (.lst xs)) : IsPaths (upd H a (.lst ys)) Pa := fun u hu => by
  obtain ⟨b, ns, e1, h1⟩ := h u hu
  exact ⟨b, ns, e1, by rw [upd_ne (ne_of h1 e (by intro z; cases z))]; exact h1⟩
theorem IsPaths.same {H H' : Hp} {Pa : List V} (h : IsPaths H Pa) (s : Same H H') : IsPaths H' Pa := fun u hu => by
  obtain ⟨b, ns, e1, h1⟩ := h u hu
  exact ⟨b, ns, e1, s _ _ h1⟩
theorem IsPaths.kp {K : PySem.W.Frag} {H H' : Hp} {Pa : List V} {p dx a1 a2 a3 a4 a5 a6 : Addr} {F P2 B E S T : List V} (h : IsPaths H Pa) (c : PL K H p dx a1 a2 a3 a4 a5 a6 F P2 B E S T) (k : Kp (C6 a1 a2 a3 a4 a5 a6) H H') : IsPaths H' Pa := fun u hu => by
  obtain ⟨b, ns, e1, h1⟩ := h u hu
  refine ⟨b, ns, e1, k _ _ h1 ?_⟩
  rintro (z | z | z | z | z | z)
  · rw [z, c.h1] at h1; cases h1
  · rw [z, c.h2] at h1; cases h1
  · rw [z, c.h3] at h1; cases h1
  · rw [z, c.h4] at h1; cases h1
  · rw [z, c.h5] at h1; cases h1
  · rw [z, c.h6] at h1; cases h1
theorem PL.noTup {K : PySem.W.Frag} {H : Hp} {p dx a1 a2 a3 a4 a5 a6 : Addr} {F P2 B E S T xs : List V} (c : PL K H p dx a1 a2 a3 a4 a5 a6 F P2 B E S T) {t : Addr} (h1 : H t = some (.tup xs)) : ¬ C6 a1 a2 a3 a4 a5 a6 t := by
  rintro (z | z | z | z | z | z)
  · rw [z, c.h1] at h1; cases h1
  · rw [z, c.h2] at h1; cases h1
  · rw [z, c.h3] at h1; cases h1
  · rw [z, c.h4] at h1; cases h1
  · rw [z, c.h5] at h1; cases h1
  · rw [z, c.h6] at h1; cases h1
section
variable {P : Program} {w : World} {K : PySem.W.Frag} {mg : Str → Option Value} {base : Heap}
theorem ok_lay_row {k0 d : Nat} {f : Addr} {fd : FuncData} (F0 : FnP K "lay_row" "Plan.lay_row" s_Plan_lay_row f fd) (T0 : Tx w K mg) (h1 : 1 ≤ k0) (G_lists_of : Def P w K mg base CX0 1 "lists_of" p_lists_of (spListsOf K)) (G_end_within : Def P w K mg base CX0 1 "end_within" p_end_within (spEnd K))
    (M_lay_list : MDef P w K mg base CX0 k0 (He.ga K "Plan") "lay_list" p_Plan_lay_list (spLayList K (d + 1))) : FnOk P w K mg base CX0 (k0 + 1) f fd p_Plan_lay_row (spLayRow K (d + 1)) := by
  have T := T0
  refine F0.ok sc_Plan_lay_row (fun vs H Q E h => ?_) (fun cdv A outer s H vs Q E hr h => ?_)
  · obtain ⟨p, tp, v, vb, vx, _, _, _, _, _, _, _, _, _, _, _, _, _, _, _, _, rfl, _⟩ := h
    rfl
  · obtain ⟨p, tp, v, vb, vx, H0, r, dx, a1, a2, a3, a4, a5, a6, F, Pa, B, Ee, Ss, Tt, ns, rfl, pl, ⟨l2, l3, l4, l5, lF, lT⟩, hra, S0, sep, sh, htp, fewp, k⟩ := h
    obtain ⟨b, vs, rfl, hb, hpb⟩ := id hra
    obtain ⟨⟨fs, hf, hk⟩, wl, k1000, sk⟩ := id sh
    have er : rsz (d + 1) r = 1 + ((kids r.2).map (lsz d)).sum := rfl
    have tpC : ¬ C6 a1 a2 a3 a4 a5 a6 tp := pl.noTup htp
    rw [er] at lF lT
    refine ⟨_, PSs.nox (pss_cons (ps_set (i := 5) sc_Plan_lay_row.nd rfl (.inl rfl) (pe_callB call_len_seq (by rfl) T.b_len PySem.boot_len (pa_cons (pe_fld (pv 0) rfl) pa_nil)))
      (pss_cons (ps_expr (pe_bm PySem.F.plainAttrs_list PySem.F.slot_list_append PySem.F.type_list_append mt_append (pe_fld (pv 0) rfl) (pa_cons (pv 1) pa_nil)))
      (pss_cons (ps_expr (pe_bm PySem.F.plainAttrs_list PySem.F.slot_list_append PySem.F.type_list_append mt_append (pe_fld (pv 0) rfl) (pa_cons (pv 2) pa_nil)))
      (pss_cons (ps_expr (pe_bm PySem.F.plainAttrs_list PySem.F.slot_list_append PySem.F.type_list_append mt_append (pe_fld (pv 0) rfl) (pa_cons (pe_ifExp (pt_cmpR op_eq (pe_ix ix_tup (pv 1) pe_int (fun _ _ => rfl)) pe_str (nomark _)) (pv 4) (pv 3)) pa_nil)))
      (pss_cons (ps_expr (pe_bm PySem.F.plainAttrs_list PySem.F.slot_list_append PySem.F.type_list_append mt_append (pe_fld (pv 0) rfl) (pa_cons (pe_lst pa_nil) pa_nil)))
      (pss_cons (ps_expr (pe_bm PySem.F.plainAttrs_list PySem.F.slot_list_append PySem.F.type_list_append mt_append (pe_fld (pv 0) rfl) (pa_cons (pe_lst pa_nil) pa_nil)))
      (pss_one (ps_for PassesOwn.never rfl (pi_enum (by rfl) T.b_enumerate (pa_cons (pe_fn G_lists_of (hr.mono (by omega)) (by rfl) pass0 (pa_cons (pv 1) pa_nil)) pa_nil)) (pg_tup (by rfl) (pgs_cons (pg_name (i := 6) sc_Plan_lay_row.nd rfl (.inl rfl)) (pgs_cons (pg_name (i := 7) sc_Plan_lay_row.nd rfl (.inl rfl)) pgs_nil))) (pss_cons (ps_set (i := 8) sc_Plan_lay_row.nd rfl (.inl rfl) (pe_fn G_end_within (hr.mono (by omega)) (by rfl) pass0 (pa_cons (pv 1) (pa_cons (pv 5) (pa_cons (pv 3) pa_nil)))))
      (pss_cons (ps_set (i := 9) sc_Plan_lay_row.nd rfl (.inl rfl) (pe_ifExp (pt_cmpR op_eq (pe_callB call_len_seq (by rfl) T.b_len PySem.boot_len (pa_cons (pv 7) pa_nil)) pe_int (nomark _)) (pv 8) (pe_callB call_len_seq (by rfl) T.b_len PySem.boot_len (pa_cons (pe_fld (pv 0) rfl) pa_nil))))
      (pss_cons (ps_expr (pe_bm PySem.F.plainAttrs_list PySem.F.slot_list_append PySem.F.type_list_append mt_append (pe_ix ix_list (pe_fld (pv 0) rfl) (pv 5) (fun _ _ => rfl)) (pa_cons (pv 9) pa_nil)))
      (pss_cons (ps_if (pt_cmpR op_eq (pe_ix ix_tup (pv 1) pe_int (fun _ _ => rfl)) pe_str (nomark _)) (pss_cons (ps_expr (pe_bm PySem.F.plainAttrs_list PySem.F.slot_list_append PySem.F.type_list_append mt_append (pe_ix ix_list (pe_fld (pv 0) rfl) (pv 5) (fun _ _ => rfl)) (pa_cons (pe_callB call_len_seq (by rfl) T.b_len PySem.boot_len (pa_cons (pe_fld (pv 0) rfl) pa_nil)) pa_nil)))
      (pss_one (ps_expr (pe_bm PySem.F.plainAttrs_list PySem.F.slot_list_append PySem.F.type_list_append mt_append (pe_fld (pv 0) rfl) (pa_cons (pv 9) pa_nil))))) pss_nil)
      (pss_one (ps_expr (pe_mth M_lay_list (hr.mono (by omega)) pass0 (pv 0) (pa_cons (pv 7) (pa_cons (pe_op op_catA (pv 2) (pe_tup (pa_cons (pv 6) pa_nil))) (pa_cons (pv 8) (pa_cons (pe_ifExp (pt_cmpR op_eq (pe_ix ix_tup (pv 1) pe_int (fun _ _ => rfl)) pe_str (nomark _)) (pv 3) (pv 4)) pa_nil))))))))))))))))))), ?_⟩
    refine ⟨_, rfl, p, _, dx, _, .ref a1, rfl, pl.ob, T.c_Plan, T.n_Plan_flat, rfl, a1, _, rfl, .inl (SqL.of pl.h1), ?_⟩
    -- flat
    refine ⟨_, rfl, p, _, dx, _, .ref a1, rfl, pl.ob, T.c_Plan, T.n_Plan_flat, rfl, .inl ⟨rfl, _, SqL.of pl.h1⟩, _, rfl, a1, F, _, rfl, rfl, pl.h1, by rw [sizeLine_eq]; omega, ?_⟩
    have pl1 := pl.put1 (F ++ [.ref b])
    have k1 : Kp (C6 a1 a2 a3 a4 a5 a6) H (upd H a1 (.lst (F ++ [.ref b]))) := Kp.put (C := C6 a1 a2 a3 a4 a5 a6) (.inl rfl)
    generalize upd H a1 (.lst (F ++ [.ref b])) = H1 at pl1 k1 ⊢
    -- places
    refine ⟨_, rfl, p, _, dx, _, .ref a2, rfl, pl1.ob, T.c_Plan, T.n_Plan_places, rfl, .inl ⟨rfl, _, SqL.of pl1.h2⟩, _, rfl, a2, Pa, _, rfl, rfl, pl1.h2, by rw [sizeLine_eq]; omega, ?_⟩
    have pl2 := pl1.put2 (Pa ++ [.ref tp])
    have k2 : Kp (C6 a1 a2 a3 a4 a5 a6) H (upd H1 a2 (.lst (Pa ++ [.ref tp]))) := k1.trans (Kp.put (C := C6 a1 a2 a3 a4 a5 a6) (.inr (.inl rfl)))
    generalize upd H1 a2 (.lst (Pa ++ [.ref tp])) = H2 at pl2 k2 ⊢
    have base : ∀ {H' : Hp}, Kp (C6 a1 a2 a3 a4 a5 a6) H H' → Same H0 H' := fun k => Kp.base S0 k sep
    -- behind
    refine ⟨_, rfl, p, _, dx, _, .ref a3, rfl, pl2.ob, T.c_Plan, T.n_Plan_behind, rfl, .inl ⟨rfl, _, SqL.of pl2.h3⟩, ?_⟩
    refine ⟨_, rfl, b, _, _, .str r.1, rfl, rfl, sameT (base k2) hb, at0, rfl, _, rfl, ?_⟩
    refine ite2 (fun _ => ⟨_, rfl, a3, B, vx, rfl, rfl, pl2.h3, by rw [sizeLine_eq]; omega, ?_⟩) (fun _ => ⟨_, rfl, a3, B, vb, rfl, rfl, pl2.h3, by rw [sizeLine_eq]; omega, ?_⟩)
    (have pl3 := pl2.put3 (B ++ [vx])
     have k3 : Kp (C6 a1 a2 a3 a4 a5 a6) H (upd H2 a3 (.lst (B ++ [vx]))) := k2.trans (Kp.put (C := C6 a1 a2 a3 a4 a5 a6) (.inr (.inr (.inl rfl))))
     generalize upd H2 a3 (.lst (B ++ [vx])) = H3 at pl3 k3 ⊢
     have lB : (B ++ [vx]).length = F.length + 1 := by simp [l3]
     generalize B ++ [vx] = B2 at pl3 lB)
    rotate_left
    (have pl3 := pl2.put3 (B ++ [vb])
     have k3 : Kp (C6 a1 a2 a3 a4 a5 a6) H (upd H2 a3 (.lst (B ++ [vb]))) := k2.trans (Kp.put (C := C6 a1 a2 a3 a4 a5 a6) (.inr (.inr (.inl rfl))))
     generalize upd H2 a3 (.lst (B ++ [vb])) = H3 at pl3 k3 ⊢
     have lB : (B ++ [vb]).length = F.length + 1 := by simp [l3]
     generalize B ++ [vb] = B2 at pl3 lB)
    rotate_left
    all_goals
      -- entries
      refine ⟨_, rfl, p, _, dx, _, .ref a4, rfl, pl3.ob, T.c_Plan, T.n_Plan_entries, rfl, .inl ⟨rfl, _, SqL.of pl3.h4⟩, by show 0 ≤ sizeLine; decide, fun e1 ne1 => ?_⟩
      have ce1 := pl3.new ne1
      have pe1 : p ≠ e1 := ne_of_none pl3.ob ne1
      have pl4 := (pl3.same (Same.new (o := .lst []) ne1)).put4 (Ee ++ [.ref e1])
      have h4 := (pl3.same (Same.new (o := .lst []) ne1)).h4
      refine ⟨a4, Ee, _, rfl, rfl, h4, by rw [sizeLine_eq]; omega, ?_⟩
      have k4 : Kp (C6 a1 a2 a3 a4 a5 a6) H (upd (upd H3 e1 (.lst [])) a4 (.lst (Ee ++ [.ref e1]))) := (k3.trans (Kp.of (Same.new ne1))).trans (Kp.put (C := C6 a1 a2 a3 a4 a5 a6) (.inr (.inr (.inr (.inl rfl)))))
      have he4 : upd (upd H3 e1 (.lst [])) a4 (.lst (Ee ++ [.ref e1])) e1 = some (.lst []) := by rw [upd_ne (fun z => ce1 (.inr (.inr (.inr (.inl z))))), upd_same]
      have He1 : H e1 = none := by
        cases q : H e1 with
        | none => rfl
        | some o => rw [k3 _ _ q ce1] at ne1; cases ne1
      generalize upd (upd H3 e1 (.lst [])) a4 (.lst (Ee ++ [.ref e1])) = H4 at pl4 k4 he4 ⊢
      -- sides
      refine ⟨_, rfl, p, _, dx, _, .ref a5, rfl, pl4.ob, T.c_Plan, T.n_Plan_sides, rfl, .inl ⟨rfl, _, SqL.of pl4.h5⟩, by show 0 ≤ sizeLine; decide, fun s1 ns1 => ?_⟩
      have cs1 := pl4.new ns1
      have ps1 : p ≠ s1 := ne_of_none pl4.ob ns1
      have es1 : e1 ≠ s1 := ne_of_none he4 ns1
      have pl5 := (pl4.same (Same.new (o := .lst []) ns1)).put5 (Ss ++ [.ref s1])
      have h5 := (pl4.same (Same.new (o := .lst []) ns1)).h5
      refine ⟨a5, Ss, _, rfl, rfl, h5, by rw [sizeLine_eq]; omega, ?_⟩
      have k5 : Kp (C6 a1 a2 a3 a4 a5 a6) H (upd (upd H4 s1 (.lst [])) a5 (.lst (Ss ++ [.ref s1]))) := (k4.trans (Kp.of (Same.new ns1))).trans (Kp.put (C := C6 a1 a2 a3 a4 a5 a6) (.inr (.inr (.inr (.inr (.inl rfl))))))
      have hs5 : upd (upd H4 s1 (.lst [])) a5 (.lst (Ss ++ [.ref s1])) s1 = some (.lst []) := by rw [upd_ne (fun z => cs1 (.inr (.inr (.inr (.inr (.inl z)))))), upd_same]
      have he5 : upd (upd H4 s1 (.lst [])) a5 (.lst (Ss ++ [.ref s1])) e1 = some (.lst []) := by rw [upd_ne (fun z => ce1 (.inr (.inr (.inr (.inr (.inl z)))))), upd_ne es1]; exact he4
      have Hs1 : H s1 = none := by
        cases q : H s1 with
        | none => rfl
        | some o => rw [k4 _ _ q cs1] at ns1; cases ns1
      generalize upd (upd H4 s1 (.lst [])) a5 (.lst (Ss ++ [.ref s1])) = H5 at pl5 k5 he5 hs5 ⊢
      -- the lists within
      refine ⟨_, rfl, _, H0, d, r, fs, rfl, hra, base k5, hf, hk, k1000, fun H6 L ls S6 nL hL hls => ?_⟩
      have pl6 := pl5.same S6
      have k6 := k5.trans (Kp.of (C := C6 a1 a2 a3 a4 a5 a6) S6)
      have cL := pl5.new nL
      have Le : L ≠ e1 := fun z => by rw [z, he5] at nL; cases nL
      have Ls : L ≠ s1 := fun z => by rw [z, hs5] at nL; cases nL
      have wide : ∀ {H' : Hp}, Kp (fun c => C6 a1 a2 a3 a4 a5 a6 c ∨ c = e1 ∨ c = s1) H6 H' → Kp (C6 a1 a2 a3 a4 a5 a6) H H' := fun kk c o hc nc => kk c o (k6 c o hc nc) (by
        rintro (z | z | z)
        · exact nc z
        · rw [z, He1] at hc; cases hc
        · rw [z, Hs1] at hc; cases hc)
      refine ⟨L, _, rfl, SqL.of hL, ?_⟩
      refine for_it (walk_enum (K := K) (a := L) (xs := ls)) (fun j σ' H' => ∃ (F2 Pa2 B' E2 S2 T' el sl : List V) (y6 y7 y8 y9 : Option V), σ' = [some (.ref p), some (.ref b), some (.ref tp), some vb, some vx, some (.int (F.length : Nat)), y6, y7, y8, y9] ∧
          Kp (fun c => C6 a1 a2 a3 a4 a5 a6 c ∨ c = e1 ∨ c = s1) H6 H' ∧ PL K H' p dx a1 a2 a3 a4 a5 a6 ((F ++ [.ref b]) ++ F2) ((Pa ++ [.ref tp]) ++ Pa2) B' ((Ee ++ [.ref e1]) ++ E2) ((Ss ++ [.ref s1]) ++ S2) T' ∧
          All2 (AnyAt K H0) (((kids r.2).take j).map (flatL d)).flatten F2 ∧ Pa2.length = F2.length ∧ B'.length = F.length + 1 + F2.length ∧ E2.length = F2.length ∧ S2.length = F2.length ∧ IsPaths H' Pa2 ∧ H' e1 = some (.lst el) ∧ H' s1 = some (.lst sl) ∧ el.length ≤ j ∧ sl.length ≤ j ∧
          F.length + 1 + F2.length + (((kids r.2).drop j).map (lsz d)).sum ≤ 3000 ∧ T'.length ≤ Tt.length + j + 1000 * F2.length ∧ T'.length + 1000 * (((kids r.2).drop j).map (lsz d)).sum + (1000 - j) ≤ 4000000)
        ⟨[], [], B2, [], [], Tt, [], [], _, _, _, _, rfl, Kp.refl _, by simpa using pl6, .nil, rfl, by rw [lB]; rfl, rfl, rfl, (fun _ h => by simp at h), S6 _ _ he5, S6 _ _ hs5, Nat.le_refl _, Nat.le_refl _, by rw [List.drop_zero]; simp; omega, by simp, by rw [List.drop_zero]; omega⟩ (fun j σ' H' _ q => ?_) (fun j x σ' H7 H8 hj q y => ?_) (fun σ' H' q => ?_)
      · obtain ⟨_, _, _, _, _, _, _, _, _, _, _, _, _, kk, _⟩ := q
        exact SqL.of (kk _ _ hL (by rintro (z | z | z); exact cL z; exact Le z; exact Ls z))
      · obtain ⟨F2, Pa2, B', E2, S2, T', el, sl, y6, y7, y8, y9, rfl, kk, plz, hal, lp2, lB', lE2, lS2, isp, he, hs, lel, lsl, lf, lt1, lt2⟩ := q
        obtain ⟨T2, num2, lv, rfl, nT2, rfl, hnum2, hlv⟩ := y
        cases Option.some.inj hnum2
        have hlv : ls[j]? = some lv := hlv
        obtain ⟨l, hl, c, cs, rfl, hc, hcs⟩ := hls.other hlv
        obtain ⟨fl, sl2⟩ := sk l (List.mem_of_getElem? hl)
        rw [sum_drop _ hl] at lf lt2
        have jlt : j < (kids r.2).length := (List.getElem?_eq_some_iff.mp hl).1
        have S8 : Same H7 (upd H7 T2 (.tup [.int (j : Nat), .ref c])) := Same.new nT2
        refine ⟨T2, _, rfl, SqT.of upd_same, rfl, _, _, rfl, _, _, rfl, rfl, ?_⟩
        have kk8 := kk.trans (Kp.of (C := fun c => C6 a1 a2 a3 a4 a5 a6 c ∨ c = e1 ∨ c = s1) S8)
        have pl8 := plz.same S8
        have he8 := S8 _ _ he
        have hs8 := S8 _ _ hs
        have isp8 : IsPaths (upd H7 T2 (.tup [.int (j : Nat), .ref c])) Pa2 := fun u hu => by
          obtain ⟨b', ns', e1', h'⟩ := isp u hu
          exact ⟨b', ns', e1', S8 _ _ h'⟩
        generalize upd H7 T2 (.tup [.int (j : Nat), .ref c]) = H9 at kk8 pl8 he8 hs8 isp8 ⊢
        have S09 := base (wide kk8)
        refine ⟨_, rfl, _, rfl, _, rfl, ?_⟩
        refine ⟨_, _, _, d, r, rfl, RowAt.mono S09 hra, fun ve => ?_⟩
        refine ⟨_, rfl, c, cs, rfl, .inl (SqL.of (S09 _ _ hc)), rfl, _, rfl, ?_⟩
        refine ite2 (fun _ => ?_) (fun _ => ?_)
        (refine ⟨_, rfl, ?_⟩)
        rotate_left
        (refine ⟨_, rfl, p, _, dx, _, .ref a1, rfl, pl8.ob, T.c_Plan, T.n_Plan_flat, rfl, a1, _, rfl, .inl (SqL.of pl8.h1), ?_⟩)
        rotate_left
        all_goals
          -- entries[here]
          refine ⟨_, rfl, p, _, dx, _, .ref a4, rfl, pl8.ob, T.c_Plan, T.n_Plan_entries, rfl, _, rfl, a4, _, _, .ref e1, rfl, rfl, SqL.of pl8.h4, at_mid l4, .inl ⟨rfl, _, SqL.of he8⟩, _, rfl, e1, el, _, rfl, rfl, he8, small1000 (by omega), ?_⟩
          generalize hg : el ++ [_] = el2
          have le2 : el2.length ≤ j + 1 := by rw [← hg]; simp; omega
          have pl9 := pl8.other (o := .lst el2) ce1 pe1.symm
          have kk9 : Kp (fun c => C6 a1 a2 a3 a4 a5 a6 c ∨ c = e1 ∨ c = s1) H6 (upd H9 e1 (.lst el2)) := kk8.trans (Kp.put (C := fun c => C6 a1 a2 a3 a4 a5 a6 c ∨ c = e1 ∨ c = s1) (.inr (.inl rfl)))
          have he9 : upd H9 e1 (.lst el2) e1 = some (.lst el2) := upd_same
          have hs9 : upd H9 e1 (.lst el2) s1 = some (.lst sl) := by rw [upd_ne es1.symm]; exact hs8
          have isp9 : IsPaths (upd H9 e1 (.lst el2)) Pa2 := isp8.put he8
          generalize upd H9 e1 (.lst el2) = H10 at pl9 kk9 he9 hs9 isp9 ⊢
          refine ⟨_, rfl, b, _, _, .str r.1, rfl, rfl, sameT (base (wide kk9)) hb, at0, rfl, _, rfl, ?_⟩
          refine ite2 (fun _ => ?_) (fun _ => ?_)
          (refine ⟨_, rfl, p, _, dx, _, .ref a5, rfl, pl9.ob, T.c_Plan, T.n_Plan_sides, rfl, _, rfl, a5, _, _, .ref s1, rfl, rfl, SqL.of pl9.h5, at_mid l5, .inl ⟨rfl, _, SqL.of hs9⟩, _, rfl, p, _, dx, _, .ref a6, rfl, pl9.ob, T.c_Plan, T.n_Plan_starts, rfl, a6, _, rfl, .inl (SqL.of pl9.h6), s1, sl, _, rfl, rfl, hs9, small1000 (by omega), ?_⟩
           generalize hg2 : sl ++ [_] = sl3
           have lsn : sl3.length ≤ j + 1 := by rw [← hg2]; simp; omega
           have pl10 := pl9.other (o := .lst sl3) cs1 ps1.symm
           refine ⟨_, rfl, p, _, dx, _, .ref a6, rfl, pl10.ob, T.c_Plan, T.n_Plan_starts, rfl, .inl ⟨rfl, _, SqL.of pl10.h6⟩, _, rfl, a6, T', _, rfl, rfl, pl10.h6, by rw [sizeLine_eq]; omega, ?_⟩
           generalize hg3 : T' ++ [_] = Tn
           have leT : Tn.length ≤ T'.length + 1 := by rw [← hg3]; simp
           have pln := pl10.put6 Tn
           have kkn : Kp (fun c => C6 a1 a2 a3 a4 a5 a6 c ∨ c = e1 ∨ c = s1) H6 (upd (upd H10 s1 (.lst sl3)) a6 (.lst Tn)) := (kk9.trans (Kp.put (C := fun c => C6 a1 a2 a3 a4 a5 a6 c ∨ c = e1 ∨ c = s1) (.inr (.inr rfl)))).trans (Kp.put (C := fun c => C6 a1 a2 a3 a4 a5 a6 c ∨ c = e1 ∨ c = s1) (.inl (.inr (.inr (.inr (.inr (.inr rfl)))))))
           have hen : upd (upd H10 s1 (.lst sl3)) a6 (.lst Tn) e1 = some (.lst el2) := by rw [upd_ne (fun z => ce1 (.inr (.inr (.inr (.inr (.inr z)))))), upd_ne es1]; exact he9
           have hsn : upd (upd H10 s1 (.lst sl3)) a6 (.lst Tn) s1 = some (.lst sl3) := by rw [upd_ne (fun z => cs1 (.inr (.inr (.inr (.inr (.inr z))))))]; exact upd_same
           have ispn : IsPaths (upd (upd H10 s1 (.lst sl3)) a6 (.lst Tn)) Pa2 := (isp9.put hs9).put pl10.h6
           generalize upd (upd H10 s1 (.lst sl3)) a6 (.lst Tn) = Hn at pln kkn hen hsn ispn ⊢)
          rotate_left
          (have pln := pl9
           have kkn := kk9
           have hen := he9
           have hsn := hs9
           have ispn := isp9
           have leT : T'.length ≤ T'.length + 1 := Nat.le_succ _
           have lsn : sl.length ≤ j + 1 := by omega)
          rotate_left
          all_goals
            have Sn := base (wide kkn)
            have lFF : ((F ++ [V.ref b]) ++ F2).length = F.length + 1 + F2.length := by rw [List.length_append, List.length_append]; rfl
            have htpn := (wide kkn) _ _ htp tpC
            refine ⟨_, rfl, p, dx, _, rfl, pln.ob, rfl, _, rfl, _, rfl, _, rfl, by show 1 ≤ sizeLine; decide, fun t3 n3 => ?_⟩
            refine cat_path (SqT.of (Same.new n3 _ _ htpn)) upd_same (by rw [List.length_map]; omega) (fun H12 tq S12 htq hnew => ?_)
            have eq2 : ns.map V.int ++ [V.int (j : Nat)] = (ns ++ [(j : Int)]).map V.int := by simp
            rw [eq2] at hnew
            have St := (Same.new (o := .tup [.int (j : Nat)]) n3).trans S12
            have plq := pln.same St
            have kkq := kkn.trans (Kp.of (C := fun c => C6 a1 a2 a3 a4 a5 a6 c ∨ c = e1 ∨ c = s1) St)
            have heq := St _ _ hen
            have hsq := St _ _ hsn
            have ispq := ispn.same St
            refine ⟨_, rfl, _, rfl, b, _, _, .str r.1, rfl, rfl, sameT (Sn.trans St) hb, at0, rfl, _, rfl, ?_⟩
            refine ite2 (fun _ => ⟨_, rfl, ?_⟩) (fun _ => ⟨_, rfl, ?_⟩)
            all_goals
              refine ⟨p, c, tq, _, _, H0, l, cs, dx, a1, a2, a3, a4, a5, a6, _, _, _, _, _, _, ns ++ [(j : Int)], rfl, plq, ⟨by rw [lFF, List.length_append, List.length_append, lp2, l2]; rfl, by rw [lB', lFF], by rw [lFF, List.length_append, List.length_append, lE2, l4]; rfl, by rw [lFF, List.length_append, List.length_append, lS2, l5]; rfl, by rw [lFF]; omega, by omega⟩, hc, hcs, Sn.trans St, sep, sl2, hnew.1, by rw [List.length_append, List.length_singleton]; omega, fun H13 laid => ?_⟩
              obtain ⟨F3, Pa3, B3, E3, S3, T3, k13, pl13, al3, q1, q2, q3, q4, isp3, q5⟩ := laid
              have lF3 : F3.length = lsz d l := by rw [← flatL_len]; exact al3.len.symm
              refine ⟨F2 ++ F3, Pa2 ++ Pa3, B3, E2 ++ E3, S2 ++ S3, T3, el2, _, _, _, _, _, rfl, kkq.trans (k13.mono fun z hz => .inl hz), by simpa [List.append_assoc] using pl13, ?_, by simp [lp2, q1], by rw [q2, lFF, List.length_append]; omega, by simp [lE2, q3], by simp [lS2, q4], fun u hu => ?_, k13 _ _ heq ce1, k13 _ _ hsq cs1, le2, lsn, by rw [List.length_append, lF3]; omega, by rw [List.length_append]; omega, by omega⟩
              · rw [take_more hl, List.map_append, List.flatten_append]
                simpa using hal.app al3
              · rcases List.mem_append.mp hu with hu | hu
                · exact (ispq.kp plq k13) u hu
                · exact isp3 u hu
      · obtain ⟨F2, Pa2, B', E2, S2, T', el, sl, y6, y7, y8, y9, rfl, kk, plz, hal, lp2, lB', lE2, lS2, isp, he, hs, lel, lsl, lf, lt1, lt2⟩ := q
        rw [← hls.len, List.take_length] at hal
        rw [← hls.len] at lt1
        refine k H' ⟨.ref b :: F2, .ref tp :: Pa2, B', .ref e1 :: E2, .ref s1 :: S2, T', wide kk, by simpa [List.append_assoc] using plz, .cons hra hal, by simp [lp2], by simp; omega, by simp [lE2], by simp [lS2], fun u hu => ?_, by simp; omega⟩
        rcases List.mem_cons.mp hu with rfl | hu
        · exact ⟨tp, ns, rfl, (wide kk) _ _ htp (fun z => by
            rcases z with z | z | z | z | z | z
            · rw [z, pl.h1] at htp; cases htp
            · rw [z, pl.h2] at htp; cases htp
            · rw [z, pl.h3] at htp; cases htp
            · rw [z, pl.h4] at htp; cases htp
            · rw [z, pl.h5] at htp; cases htp
            · rw [z, pl.h6] at htp; cases htp)⟩
        · exact isp u hu
end
end OR

set_option Elab.async false
set_option maxRecDepth 100000
set_option maxHeartbeats 8000000
set_option linter.all false
namespace OR
open PySem PySem.Spec PyProof.Rows L2 TS2
section
variable {P : Program} {w : World} {K : PySem.W.Frag} {mg : Str → Option Value} {base : Heap}
theorem ok_lay_list {k0 k1 d : Nat} {f : Addr} {fd : FuncData} (F0 : FnP K "lay_list" "Plan.lay_list" s_Plan_lay_list f fd) (T0 : Tx w K mg) (h1 : k1 ≤ k0) (G_size_of : Def P w K mg base CX0 k1 "size_of" p_size_of (spSize K (d + 1)))
    (M_lay_row : MDef P w K mg base CX0 k0 (He.ga K "Plan") "lay_row" p_Plan_lay_row (spLayRow K d)) : FnOk P w K mg base CX0 (k0 + 1) f fd p_Plan_lay_list (spLayList K (d + 1)) := by
  have T := T0
  refine F0.ok sc_Plan_lay_list (fun vs H Q E h => ?_) (fun cdv A outer s H vs Q E hr h => ?_)
  · obtain ⟨p, ra, tp, vb, vx, _, _, _, _, _, _, _, _, _, _, _, _, _, _, _, _, _, rfl, _⟩ := h
    rfl
  · obtain ⟨p, ra, tp, vb, vx, H0, rows, xs, dx, a1, a2, a3, a4, a5, a6, F, Pa, B, Ee, Ss, Tt, ns, rfl, pl, ⟨l2, l3, l4, l5, lF, lT⟩, hra, hp, S0, sep, sh, htp, fewp, k⟩ := h
    have base : ∀ {H' : Hp}, Kp (C6 a1 a2 a3 a4 a5 a6) H H' → Same H0 H' := fun k => Kp.base S0 k sep
    have tpC : ¬ C6 a1 a2 a3 a4 a5 a6 tp := pl.noTup htp
    refine ⟨_, PSs.nox (pss_one (ps_for PassesOwn.never rfl (pi_enum (by rfl) T.b_enumerate (pa_cons (pv 1) pa_nil)) (pg_tup (by rfl) (pgs_cons (pg_name (i := 5) sc_Plan_lay_list.nd rfl (.inl rfl)) (pgs_cons (pg_name (i := 6) sc_Plan_lay_list.nd rfl (.inl rfl)) pgs_nil))) (pss_cons (ps_set (i := 7) sc_Plan_lay_list.nd rfl (.inl rfl) (pv 3))
      (pss_cons (ps_if (pt_cmpR op_lt (pe_op op_add (pv 5) pe_int) (pe_callB call_len_seq (by rfl) T.b_len PySem.boot_len (pa_cons (pv 1) pa_nil)) (nomark _)) (pss_one (ps_set (i := 7) sc_Plan_lay_list.nd rfl (.inl rfl) (pe_op op_add (pe_callB call_len_seq (by rfl) T.b_len PySem.boot_len (pa_cons (pe_fld (pv 0) rfl) pa_nil)) (pe_fn G_size_of (hr.mono (by omega)) (by rfl) pass0 (pa_cons (pv 6) pa_nil))))) pss_nil)
      (pss_one (ps_expr (pe_mth M_lay_row (hr.mono (by omega)) pass0 (pv 0) (pa_cons (pv 6) (pa_cons (pe_op op_catA (pv 2) (pe_tup (pa_cons (pv 5) pa_nil))) (pa_cons (pv 7) (pa_cons (pv 4) pa_nil))))))))))), ?_⟩
    refine ⟨_, rfl, ra, _, rfl, SqL.of (S0 _ _ hra), ?_⟩
    refine for_it (walk_enum (K := K) (a := ra) (xs := xs)) (fun i σ' H' => ∃ (F2 Pa2 B' E2 S2 T' : List V) (y5 y6 y7 : Option V), σ' = [some (.ref p), some (.ref ra), some (.ref tp), some vb, some vx, y5, y6, y7] ∧
        Kp (C6 a1 a2 a3 a4 a5 a6) H H' ∧ PL K H' p dx a1 a2 a3 a4 a5 a6 (F ++ F2) (Pa ++ Pa2) B' (Ee ++ E2) (Ss ++ S2) T' ∧ All2 (AnyAt K H0) (flatL d (rows.take i)) F2 ∧ Pa2.length = F2.length ∧ B'.length = F.length + F2.length ∧ E2.length = F2.length ∧ S2.length = F2.length ∧ IsPaths H' Pa2 ∧
        F.length + F2.length + ((rows.drop i).map (rsz d)).sum ≤ 3000 ∧ T'.length ≤ Tt.length + 1000 * F2.length ∧ T'.length + 1000 * ((rows.drop i).map (rsz d)).sum ≤ 4000000)
      ⟨[], [], B, [], [], Tt, _, _, _, rfl, Kp.refl _, by simpa using pl, .nil, rfl, by rw [l3]; rfl, rfl, rfl, (fun _ h => by simp at h), by rw [List.drop_zero]; exact lF, by simp, by rw [List.drop_zero]; exact lT⟩ (fun i σ' H' _ q => ?_) (fun i x σ' H7 H8 hi q y => ?_) (fun σ' H' q => ?_)
    · obtain ⟨_, _, _, _, _, _, _, _, _, _, kp, _⟩ := q
      exact SqL.of (base kp _ _ hra)
    · obtain ⟨F2, Pa2, B', E2, S2, T', y5, y6, y7, rfl, kp, plz, hal, lp2, lB', lE2, lS2, isp, lf, lt1, lt2⟩ := q
      obtain ⟨T2, num2, rv, rfl, nT2, rfl, hnum2, hrv⟩ := y
      cases Option.some.inj hnum2
      have hrv : xs[i]? = some rv := hrv
      obtain ⟨row, hrow, hrow2⟩ := hp.other hrv
      have shr := sh row (List.mem_of_getElem? hrow)
      rw [sum_drop _ hrow] at lf lt2
      have S8 : Same H7 (upd H7 T2 (.tup [.int (i : Nat), rv])) := Same.new nT2
      refine ⟨T2, _, rfl, SqT.of upd_same, rfl, _, _, rfl, _, _, rfl, rfl, ?_⟩
      have kp8 := kp.trans (Kp.of (C := C6 a1 a2 a3 a4 a5 a6) S8)
      have pl8 := plz.same S8
      have isp8 := isp.same S8
      generalize upd H7 T2 (.tup [.int (i : Nat), rv]) = H9 at kp8 pl8 isp8 ⊢
      cases d with
      | zero => exact nomatch row
      | succ e =>
        have lFF : (F ++ F2).length = F.length + F2.length := List.length_append
        refine ⟨_, rfl, ?_⟩
        refine ⟨_, rfl, _, _, rfl, rfl, _, rfl, ra, xs, rfl, .inl (SqL.of (base kp8 _ _ hra)), _, _, rfl, rfl, _, rfl, ?_⟩
        refine ite2 (fun _ => ?_) (fun _ => ?_)
        (refine ⟨_, rfl, p, _, dx, _, .ref a1, rfl, pl8.ob, T.c_Plan, T.n_Plan_flat, rfl, a1, _, rfl, .inl (SqL.of pl8.h1), ?_⟩
         refine ⟨_, rfl, rv, H0, row, rfl, base kp8, hrow2, shr, by omega, fun H10 S10 => ?_⟩
         refine ⟨_, _, rfl, rfl, ?_⟩
         have kpn := kp8.trans (Kp.of (C := C6 a1 a2 a3 a4 a5 a6) S10)
         have pln := pl8.same S10
         have ispn := isp8.same S10)
        rotate_left
        (have kpn := kp8
         have pln := pl8
         have ispn := isp8)
        rotate_left
        all_goals
          have htpn := kpn _ _ htp tpC
          refine ⟨_, rfl, p, dx, _, rfl, pln.ob, rfl, _, rfl, _, rfl, _, rfl, by show 1 ≤ sizeLine; decide, fun t3 n3 => ?_⟩
          refine cat_path (SqT.of (Same.new n3 _ _ htpn)) upd_same (by rw [List.length_map]; omega) (fun H12 tq S12 htq hnew => ?_)
          have eq2 : ns.map V.int ++ [V.int (i : Nat)] = (ns ++ [(i : Int)]).map V.int := by simp
          rw [eq2] at hnew
          have St := (Same.new (o := .tup [.int (i : Nat)]) n3).trans S12
          have plq := pln.same St
          have kpq := kpn.trans (Kp.of (C := C6 a1 a2 a3 a4 a5 a6) St)
          have ispq := ispn.same St
          refine ⟨_, rfl, _, rfl, ?_⟩
          refine ⟨p, tq, rv, _, _, H0, row, dx, a1, a2, a3, a4, a5, a6, _, _, _, _, _, _, ns ++ [(i : Int)], rfl, plq, ⟨by rw [lFF, List.length_append, lp2, l2], by rw [lB', lFF], by rw [lFF, List.length_append, lE2, l4], by rw [lFF, List.length_append, lS2, l5], by rw [lFF]; omega, by omega⟩, hrow2, base kpq, sep, shr, hnew.1, by rw [List.length_append, List.length_singleton]; omega, fun H13 laid => ?_⟩
          obtain ⟨F3, Pa3, B3, E3, S3, T3, k13, pl13, al3, q1, q2, q3, q4, isp3, q5⟩ := laid
          have lF3 : F3.length = rsz (e + 1) row := by rw [← flat_len]; exact al3.len.symm
          refine ⟨F2 ++ F3, Pa2 ++ Pa3, B3, E2 ++ E3, S2 ++ S3, T3, _, _, _, rfl, kpq.trans k13, by simpa [List.append_assoc] using pl13, ?_, by simp [lp2, q1], by rw [q2, lFF, List.length_append]; omega, by simp [lE2, q3], by simp [lS2, q4], fun u hu => ?_, by rw [List.length_append, lF3]; omega, by rw [List.length_append]; omega, by omega⟩
          · unfold flatL
            rw [take_more hrow, List.map_append, List.flatten_append]
            have := hal.app al3
            unfold flatL at this
            simpa using this
          · rcases List.mem_append.mp hu with hu | hu
            · exact (ispq.kp plq k13) u hu
            · exact isp3 u hu
    · obtain ⟨F2, Pa2, B', E2, S2, T', y5, y6, y7, rfl, kp, plz, hal, lp2, lB', lE2, lS2, isp, lf, lt1, lt2⟩ := q
      rw [← hp.len, List.take_length] at hal
      exact k H' ⟨F2, Pa2, B', E2, S2, T', kp, plz, hal, lp2, lB', lE2, lS2, isp, lt1⟩
end
end OR

set_option Elab.async false
set_option maxRecDepth 100000
set_option maxHeartbeats 8000000
set_option linter.all false
namespace OR
open PySem PySem.Spec PyProof.Rows L2 TS2
def Sv (H H' : Hp) (p : Addr) : Prop := ∀ b o, H b = some o → b ≠ p → H' b = some o
theorem Sv.same {H H' H'' : Hp} {p : Addr} (h : Sv H H' p) (s : Same H' H'') : Sv H H'' p := fun b o hb nb => s _ _ (h b o hb nb)
theorem Sv.own {H H' : Hp} {p : Addr} {u : HO} (h : Sv H H' p) : Sv H (upd H' p u) p := fun b o hb nb => by rw [upd_ne nb]; exact h b o hb nb
theorem Sv.trans {H H' H'' : Hp} {p : Addr} (h : Sv H H' p) (s : Sv H' H'' p) : Sv H H'' p := fun b o hb nb => s _ _ (h b o hb nb) nb
def spPlanInit (K : PySem.W.Frag) (d : Nat) : Sp := fun vs H Q _ => ∃ (p dx ra : Addr) (H0 : Hp) (rows : List (Row d)) (xs : List V), vs = [.ref p, .ref ra] ∧ H p = some (.ins (He.ga K "Plan") dx []) ∧ H0 p = none ∧ H0 ra = some (.lst xs) ∧ All2 (RowAt K H0 d) rows xs ∧ Same H0 H ∧ (∀ r ∈ rows, Shape d r) ∧ d ≤ 40 ∧ lsz d rows ≤ 3000 ∧
  ∀ (H' : Hp) (a1 : Addr) (F : List V) (more : List (Str × V)), Sv H H' p → H' p = some (.ins (He.ga K "Plan") dx (("flat", .ref a1) :: more)) → H' a1 = some (.lst F) → a1 ≠ p → All2 (AnyAt K H0) (flatL d rows) F → Q .non H'
section
variable {P : Program} {w : World} {K : PySem.W.Frag} {mg : Str → Option Value} {base : Heap}
theorem ok_plan {k0 d : Nat} {f : Addr} {fd : FuncData} (F0 : FnP K "__init__" "Plan.__init__" s_Plan___init__ f fd) (T0 : Tx w K mg) (M_lay_list : MDef P w K mg base CX0 k0 (He.ga K "Plan") "lay_list" p_Plan_lay_list (spLayList K (d + 1))) :
    FnOk P w K mg base CX0 (k0 + 1) f fd p_Plan___init__ (spPlanInit K d) := by
  have T := T0
  refine F0.ok sc_Plan___init__ (fun vs H Q E h => ?_) (fun cdv A outer s H vs Q E hr h => ?_)
  · obtain ⟨p, dx, ra, _, _, _, rfl, _⟩ := h
    rfl
  · obtain ⟨p, dx, ra, H0, rows, xs, rfl, hp, H0p, hra0, hal, S0, sh, fd, few, k⟩ := h
    have hu := hu_of hr
    obtain ⟨tF, mFINISH⟩ := T.m_FINISH
    have hra := S0 _ _ hra0
    have rp : ra ≠ p := ne_of hra hp (by intro z; cases z)
    refine ⟨_, PSs.nox (pss_cons (ps_fld (pv 0) (pe_lst pa_nil) rfl)
      (pss_cons (ps_fld (pv 0) (pe_lst pa_nil) rfl)
      (pss_cons (ps_fld (pv 0) (pe_lst pa_nil) rfl)
      (pss_cons (ps_fld (pv 0) (pe_lst pa_nil) rfl)
      (pss_cons (ps_fld (pv 0) (pe_lst pa_nil) rfl)
      (pss_cons (ps_fld (pv 0) (pe_lst (pa_cons (pe_ifExp (pt_cmpR op_eq (pe_callB call_len_seq (by rfl) T.b_len PySem.boot_len (pa_cons (pv 1) pa_nil)) pe_int (nomark _)) (pe_glob (by rfl) mFINISH (show RelV (.int (-2)) _ from ⟨_, rfl⟩)) pe_int) pa_nil)) rfl)
      (pss_cons (ps_expr (pe_mth M_lay_list (hr.mono (by omega)) pass0 (pv 0) (pa_cons (pv 1) (pa_cons (pe_tup pa_nil) (pa_cons (pe_glob (by rfl) mFINISH (show RelV (.int (-2)) _ from ⟨_, rfl⟩)) (pa_cons (pe_glob (by rfl) mFINISH (show RelV (.int (-2)) _ from ⟨_, rfl⟩)) pa_nil))))))
      (pss_one (ps_fld (pv 0) (pe_dcT hu (by rfl) sc_Plan___init__.nd (own := [("number", 2), ("path", 3)]) (g := (gTup K 2 (gCons (gName 2) (gCons (gName 3) gNil)))) (pi_enum (by rfl) T.b_enumerate (pa_cons (pe_fld (pv 0) rfl) pa_nil)) (blkOk_by (N := n_Plan___init__) (sc := defScope s_Plan___init__) (by decide +kernel)) (fun _ _ _ _ _ => (pg_tup (by rfl) (pgs_cons (pg_name (i := 2) sc_Plan___init__.nd rfl (.inl rfl)) (pgs_cons (pg_name (i := 3) sc_Plan___init__.nd rfl (.inl rfl)) pgs_nil)))) (fun _ _ _ _ _ => (pv 3)) (fun _ _ _ _ _ => (pv 2))) rfl))))))))), ?_⟩
    have sv0 : Sv H H p := fun b o hb _ => hb
    refine ⟨by show 0 ≤ sizeLine; decide, fun a1 n1 => ?_⟩
    have p1 : p ≠ a1 := ne_of_none hp n1
    refine ⟨_, rfl, p, _, dx, _, rfl, (by rw [upd_ne p1]; exact hp), T.c_Plan, T.n_Plan_flat, (by show 0 < 1000; decide), ?_⟩
    have sv1 : Sv H (upd (upd H a1 (.lst [])) p (.ins (He.ga K "Plan") dx (putF "flat" (.ref a1) ([])))) p := (sv0.same (Same.new n1)).own
    have st1 : Sv H (upd (upd H a1 (.lst [])) p (.ins (He.ga K "Plan") dx (putF "flat" (.ref a1) ([])))) p := Sv.own (fun b o hb _ => Same.new n1 b o hb)
    have L1 : upd (upd H a1 (.lst [])) p (.ins (He.ga K "Plan") dx (putF "flat" (.ref a1) ([]))) a1 = some (.lst []) := by rw [upd_ne p1.symm]; exact upd_same
    have hp1 : upd (upd H a1 (.lst [])) p (.ins (He.ga K "Plan") dx (putF "flat" (.ref a1) ([]))) p = some (.ins (He.ga K "Plan") dx (putF "flat" (.ref a1) ([]))) := upd_same
    generalize upd (upd H a1 (.lst [])) p (.ins (He.ga K "Plan") dx (putF "flat" (.ref a1) ([]))) = G1 at sv1 st1 L1 hp1 ⊢
    refine ⟨by show 0 ≤ sizeLine; decide, fun a2 n2 => ?_⟩
    have p2 : p ≠ a2 := ne_of_none hp1 n2
    refine ⟨_, rfl, p, _, dx, _, rfl, (by rw [upd_ne p2]; exact hp1), T.c_Plan, T.n_Plan_places, (by show 1 < 1000; decide), ?_⟩
    have sv2 : Sv H (upd (upd G1 a2 (.lst [])) p (.ins (He.ga K "Plan") dx (putF "places" (.ref a2) (putF "flat" (.ref a1) ([]))))) p := (sv1.same (Same.new n2)).own
    have st2 : Sv G1 (upd (upd G1 a2 (.lst [])) p (.ins (He.ga K "Plan") dx (putF "places" (.ref a2) (putF "flat" (.ref a1) ([]))))) p := Sv.own (fun b o hb _ => Same.new n2 b o hb)
    have L2 : upd (upd G1 a2 (.lst [])) p (.ins (He.ga K "Plan") dx (putF "places" (.ref a2) (putF "flat" (.ref a1) ([])))) a2 = some (.lst []) := by rw [upd_ne p2.symm]; exact upd_same
    have hp2 : upd (upd G1 a2 (.lst [])) p (.ins (He.ga K "Plan") dx (putF "places" (.ref a2) (putF "flat" (.ref a1) ([])))) p = some (.ins (He.ga K "Plan") dx (putF "places" (.ref a2) (putF "flat" (.ref a1) ([])))) := upd_same
    generalize upd (upd G1 a2 (.lst [])) p (.ins (He.ga K "Plan") dx (putF "places" (.ref a2) (putF "flat" (.ref a1) ([])))) = G2 at sv2 st2 L2 hp2 ⊢
    refine ⟨by show 0 ≤ sizeLine; decide, fun a3 n3 => ?_⟩
    have p3 : p ≠ a3 := ne_of_none hp2 n3
    refine ⟨_, rfl, p, _, dx, _, rfl, (by rw [upd_ne p3]; exact hp2), T.c_Plan, T.n_Plan_behind, (by show 2 < 1000; decide), ?_⟩
    have sv3 : Sv H (upd (upd G2 a3 (.lst [])) p (.ins (He.ga K "Plan") dx (putF "behind" (.ref a3) (putF "places" (.ref a2) (putF "flat" (.ref a1) ([])))))) p := (sv2.same (Same.new n3)).own
    have st3 : Sv G2 (upd (upd G2 a3 (.lst [])) p (.ins (He.ga K "Plan") dx (putF "behind" (.ref a3) (putF "places" (.ref a2) (putF "flat" (.ref a1) ([])))))) p := Sv.own (fun b o hb _ => Same.new n3 b o hb)
    have L3 : upd (upd G2 a3 (.lst [])) p (.ins (He.ga K "Plan") dx (putF "behind" (.ref a3) (putF "places" (.ref a2) (putF "flat" (.ref a1) ([]))))) a3 = some (.lst []) := by rw [upd_ne p3.symm]; exact upd_same
    have hp3 : upd (upd G2 a3 (.lst [])) p (.ins (He.ga K "Plan") dx (putF "behind" (.ref a3) (putF "places" (.ref a2) (putF "flat" (.ref a1) ([]))))) p = some (.ins (He.ga K "Plan") dx (putF "behind" (.ref a3) (putF "places" (.ref a2) (putF "flat" (.ref a1) ([]))))) := upd_same
    generalize upd (upd G2 a3 (.lst [])) p (.ins (He.ga K "Plan") dx (putF "behind" (.ref a3) (putF "places" (.ref a2) (putF "flat" (.ref a1) ([]))))) = G3 at sv3 st3 L3 hp3 ⊢
    refine ⟨by show 0 ≤ sizeLine; decide, fun a4 n4 => ?_⟩
    have p4 : p ≠ a4 := ne_of_none hp3 n4
    refine ⟨_, rfl, p, _, dx, _, rfl, (by rw [upd_ne p4]; exact hp3), T.c_Plan, T.n_Plan_entries, (by show 3 < 1000; decide), ?_⟩
    have sv4 : Sv H (upd (upd G3 a4 (.lst [])) p (.ins (He.ga K "Plan") dx (putF "entries" (.ref a4) (putF "behind" (.ref a3) (putF "places" (.ref a2) (putF "flat" (.ref a1) ([]))))))) p := (sv3.same (Same.new n4)).own
    have st4 : Sv G3 (upd (upd G3 a4 (.lst [])) p (.ins (He.ga K "Plan") dx (putF "entries" (.ref a4) (putF "behind" (.ref a3) (putF "places" (.ref a2) (putF "flat" (.ref a1) ([]))))))) p := Sv.own (fun b o hb _ => Same.new n4 b o hb)
    have L4 : upd (upd G3 a4 (.lst [])) p (.ins (He.ga K "Plan") dx (putF "entries" (.ref a4) (putF "behind" (.ref a3) (putF "places" (.ref a2) (putF "flat" (.ref a1) ([])))))) a4 = some (.lst []) := by rw [upd_ne p4.symm]; exact upd_same
    have hp4 : upd (upd G3 a4 (.lst [])) p (.ins (He.ga K "Plan") dx (putF "entries" (.ref a4) (putF "behind" (.ref a3) (putF "places" (.ref a2) (putF "flat" (.ref a1) ([])))))) p = some (.ins (He.ga K "Plan") dx (putF "entries" (.ref a4) (putF "behind" (.ref a3) (putF "places" (.ref a2) (putF "flat" (.ref a1) ([])))))) := upd_same
    generalize upd (upd G3 a4 (.lst [])) p (.ins (He.ga K "Plan") dx (putF "entries" (.ref a4) (putF "behind" (.ref a3) (putF "places" (.ref a2) (putF "flat" (.ref a1) ([])))))) = G4 at sv4 st4 L4 hp4 ⊢
    refine ⟨by show 0 ≤ sizeLine; decide, fun a5 n5 => ?_⟩
    have p5 : p ≠ a5 := ne_of_none hp4 n5
    refine ⟨_, rfl, p, _, dx, _, rfl, (by rw [upd_ne p5]; exact hp4), T.c_Plan, T.n_Plan_sides, (by show 4 < 1000; decide), ?_⟩
    have sv5 : Sv H (upd (upd G4 a5 (.lst [])) p (.ins (He.ga K "Plan") dx (putF "sides" (.ref a5) (putF "entries" (.ref a4) (putF "behind" (.ref a3) (putF "places" (.ref a2) (putF "flat" (.ref a1) ([])))))))) p := (sv4.same (Same.new n5)).own
    have st5 : Sv G4 (upd (upd G4 a5 (.lst [])) p (.ins (He.ga K "Plan") dx (putF "sides" (.ref a5) (putF "entries" (.ref a4) (putF "behind" (.ref a3) (putF "places" (.ref a2) (putF "flat" (.ref a1) ([])))))))) p := Sv.own (fun b o hb _ => Same.new n5 b o hb)
    have L5 : upd (upd G4 a5 (.lst [])) p (.ins (He.ga K "Plan") dx (putF "sides" (.ref a5) (putF "entries" (.ref a4) (putF "behind" (.ref a3) (putF "places" (.ref a2) (putF "flat" (.ref a1) ([]))))))) a5 = some (.lst []) := by rw [upd_ne p5.symm]; exact upd_same
    have hp5 : upd (upd G4 a5 (.lst [])) p (.ins (He.ga K "Plan") dx (putF "sides" (.ref a5) (putF "entries" (.ref a4) (putF "behind" (.ref a3) (putF "places" (.ref a2) (putF "flat" (.ref a1) ([]))))))) p = some (.ins (He.ga K "Plan") dx (putF "sides" (.ref a5) (putF "entries" (.ref a4) (putF "behind" (.ref a3) (putF "places" (.ref a2) (putF "flat" (.ref a1) ([]))))))) := upd_same
    generalize upd (upd G4 a5 (.lst [])) p (.ins (He.ga K "Plan") dx (putF "sides" (.ref a5) (putF "entries" (.ref a4) (putF "behind" (.ref a3) (putF "places" (.ref a2) (putF "flat" (.ref a1) ([]))))))) = G5 at sv5 st5 L5 hp5 ⊢
    have d12 : a1 ≠ a2 := ne_of_none L1 n2
    have d13 : a1 ≠ a3 := ne_of_none (st2 _ _ L1 p1.symm) n3
    have d23 : a2 ≠ a3 := ne_of_none L2 n3
    have d14 : a1 ≠ a4 := ne_of_none (st3 _ _ (st2 _ _ L1 p1.symm) p1.symm) n4
    have d24 : a2 ≠ a4 := ne_of_none (st3 _ _ L2 p2.symm) n4
    have d34 : a3 ≠ a4 := ne_of_none L3 n4
    have d15 : a1 ≠ a5 := ne_of_none (st4 _ _ (st3 _ _ (st2 _ _ L1 p1.symm) p1.symm) p1.symm) n5
    have d25 : a2 ≠ a5 := ne_of_none (st4 _ _ (st3 _ _ L2 p2.symm) p2.symm) n5
    have d35 : a3 ≠ a5 := ne_of_none (st4 _ _ L3 p3.symm) n5
    have d45 : a4 ≠ a5 := ne_of_none L4 n5
    refine ⟨_, rfl, ra, _, rfl, .inl (SqL.of (sv5 _ _ hra rp)), rfl, _, rfl, ?_⟩
    refine ite2 (fun _ => ?_) (fun _ => ?_)
    all_goals
      refine ⟨by show 1 ≤ sizeLine; decide, fun a6 n6 => ?_⟩
      have p6 : p ≠ a6 := ne_of_none hp5 n6
      refine ⟨_, rfl, p, _, dx, _, rfl, (by rw [upd_ne p6]; exact hp5), T.c_Plan, T.n_Plan_starts, (by show 5 < 1000; decide), ?_⟩
      generalize eT : ([V.int _] : List V) = T6
      have lT : T6.length = 1 := by rw [← eT]; rfl
      have sv6 : Sv H (upd (upd G5 a6 (.lst T6)) p (.ins (He.ga K "Plan") dx (putF "starts" (.ref a6) (putF "sides" (.ref a5) (putF "entries" (.ref a4) (putF "behind" (.ref a3) (putF "places" (.ref a2) (putF "flat" (.ref a1) ([]))))))))) p := (sv5.same (Same.new n6)).own
      have st6 : Sv G5 (upd (upd G5 a6 (.lst T6)) p (.ins (He.ga K "Plan") dx (putF "starts" (.ref a6) (putF "sides" (.ref a5) (putF "entries" (.ref a4) (putF "behind" (.ref a3) (putF "places" (.ref a2) (putF "flat" (.ref a1) ([]))))))))) p := Sv.own (fun b o hb _ => Same.new n6 b o hb)
      have L6 : upd (upd G5 a6 (.lst T6)) p (.ins (He.ga K "Plan") dx (putF "starts" (.ref a6) (putF "sides" (.ref a5) (putF "entries" (.ref a4) (putF "behind" (.ref a3) (putF "places" (.ref a2) (putF "flat" (.ref a1) ([])))))))) a6 = some (.lst T6) := by rw [upd_ne p6.symm]; exact upd_same
      have hp6 : upd (upd G5 a6 (.lst T6)) p (.ins (He.ga K "Plan") dx (putF "starts" (.ref a6) (putF "sides" (.ref a5) (putF "entries" (.ref a4) (putF "behind" (.ref a3) (putF "places" (.ref a2) (putF "flat" (.ref a1) ([])))))))) p = some (.ins (He.ga K "Plan") dx (planF a1 a2 a3 a4 a5 a6)) := upd_same
      generalize upd (upd G5 a6 (.lst T6)) p (.ins (He.ga K "Plan") dx (putF "starts" (.ref a6) (putF "sides" (.ref a5) (putF "entries" (.ref a4) (putF "behind" (.ref a3) (putF "places" (.ref a2) (putF "flat" (.ref a1) ([])))))))) = G6 at sv6 st6 L6 hp6 ⊢
      have d16 : a1 ≠ a6 := ne_of_none (st5 _ _ (st4 _ _ (st3 _ _ (st2 _ _ L1 p1.symm) p1.symm) p1.symm) p1.symm) n6
      have d26 : a2 ≠ a6 := ne_of_none (st5 _ _ (st4 _ _ (st3 _ _ L2 p2.symm) p2.symm) p2.symm) n6
      have d36 : a3 ≠ a6 := ne_of_none (st5 _ _ (st4 _ _ L3 p3.symm) p3.symm) n6
      have d46 : a4 ≠ a6 := ne_of_none (st5 _ _ L4 p4.symm) n6
      have d56 : a5 ≠ a6 := ne_of_none L5 n6
      have pl : PL K G6 p dx a1 a2 a3 a4 a5 a6 [] [] [] [] [] T6 := ⟨hp6, st6 _ _ (st5 _ _ (st4 _ _ (st3 _ _ (st2 _ _ L1 p1.symm) p1.symm) p1.symm) p1.symm) p1.symm, st6 _ _ (st5 _ _ (st4 _ _ (st3 _ _ L2 p2.symm) p2.symm) p2.symm) p2.symm, st6 _ _ (st5 _ _ (st4 _ _ L3 p3.symm) p3.symm) p3.symm, st6 _ _ (st5 _ _ L4 p4.symm) p4.symm, st6 _ _ L5 p5.symm, L6, by simp [d12, d13, d14, d15, d16, d23, d24, d25, d26, d34, d35, d36, d45, d46, d56]⟩
      have free : ∀ {G : Hp} {a : Addr}, Sv H G p → G a = none → a ≠ p → H0 a = none := fun {G a} sv n np => by
        cases q : H0 a with
        | none => rfl
        | some o => rw [sv _ _ (S0 _ _ q) np] at n; cases n
      have sep : Sep H0 (C6 a1 a2 a3 a4 a5 a6) := by
        rintro c (rfl | rfl | rfl | rfl | rfl | rfl)
        · exact free sv0 n1 p1.symm
        · exact free sv1 n2 p2.symm
        · exact free sv2 n3 p3.symm
        · exact free sv3 n4 p4.symm
        · exact free sv4 n5 p5.symm
        · exact free sv5 n6 p6.symm
      have S06 : Same H0 G6 := fun b o e => sv6 b o (S0 b o e) (fun z => by rw [z, H0p] at e; cases e)
      refine ⟨_, rfl, p, dx, _, rfl, pl.ob, rfl, _, rfl, by show 0 ≤ sizeLine; decide, fun t nt => ?_⟩
      have St : Same G6 (upd G6 t (.tup [])) := Same.new nt
      have ht : upd G6 t (.tup []) t = some (.tup []) := upd_same
      generalize upd G6 t (.tup []) = G7 at St ht ⊢
      refine ⟨p, ra, t, _, _, H0, rows, xs, dx, a1, a2, a3, a4, a5, a6, [], [], [], [], [], T6, [], rfl, pl.same St, ⟨rfl, rfl, rfl, rfl, by simpa using few, by omega⟩, hra0, hal, S06.trans St, sep, sh, ht, by show 0 + 2 * d ≤ 90; omega, fun G8 laid => ?_⟩
      obtain ⟨F3, Pa3, B3, E3, S3, T3, k8, pl8, al3, q1, q2, q3, q4, isp3, q5⟩ := laid
      have lF3 : F3.length = lsz d rows := by rw [← flatL_len]; exact al3.len.symm
      refine ⟨_, rfl, p, _, dx, _, .ref a2, rfl, pl8.ob, T.c_Plan, T.n_Plan_places, rfl, a2, _, rfl, SqL.of pl8.h2, fun D nD => ?_⟩
      have a2D : a2 ≠ D := ne_of_none pl8.h2 nD
      have pD : p ≠ D := ne_of_none pl8.ob nD
      refine out_it (walk_enum (K := K) (a := a2) (xs := [] ++ Pa3)) (fun i H' => Kp (· = D) (upd G8 D (.dT [])) H' ∧ ∃ kvs, H' D = some (.dT kvs) ∧ kvs.length ≤ i) ⟨Kp.refl _, [], upd_same, Nat.le_refl _⟩ (fun i H' _ q => SqL.of (q.1 _ _ (by rw [upd_ne a2D]; exact pl8.h2) a2D)) (fun i x H9 H10 hi q y => ?_) (fun H9 q => ?_)
      · obtain ⟨T2, num, pv2, rfl, nT2, rfl, hnum, hpv⟩ := y
        obtain ⟨kq, kvs, hD, lk⟩ := q
        cases Option.some.inj hnum
        have hpv : ([] ++ Pa3)[i]? = some pv2 := hpv
        obtain ⟨b, ns, rfl, hb⟩ := isp3 pv2 (List.mem_of_getElem? hpv)
        have hb9 : H9 b = some (.tup (ns.map V.int)) := kq _ _ (by rw [upd_ne (ne_of_none hb nD)]; exact hb) (ne_of_none hb nD)
        refine ⟨T2, _, rfl, SqT.of upd_same, rfl, _, _, rfl, _, _, rfl, rfl, rfl, ?_⟩
        refine ⟨_, rfl, _, rfl, kvs, ns.map Sum.inl, b, rfl, ?_, ?_, ?_, ?_⟩
        · rw [upd_ne (ne_of_none hb9 nT2), hb9, List.map_map]
          rfl
        · rw [upd_ne (ne_of_none hD nT2)]
          exact hD
        · refine Nat.lt_of_le_of_lt (m := 3000) ?_ (by decide)
          have : ([] ++ Pa3).length = Pa3.length := rfl
          omega
        · refine ⟨fun b o e n => ?_, _, upd_same, ?_⟩
          · rw [upd_ne n]
            exact Same.new nT2 _ _ (kq b o e n)
          · have := length_putK kvs (ns.map Sum.inl : List Key) (V.int (i : Nat))
            omega
      · obtain ⟨kq, kvs, hD, lk⟩ := q
        have S8 : Same G8 H9 := fun b o e => kq b o (by rw [upd_ne (ne_of_none e nD)]; exact e) (ne_of_none e nD)
        refine ⟨_, rfl, p, _, dx, _, rfl, S8 _ _ pl8.ob, T.c_Plan, T.n_Plan_numbers, (by show 6 < 1000; decide), ?_⟩
        refine k _ a1 F3 _ (fun b o e nb => ?_) upd_same (by rw [upd_ne p1.symm]; exact S8 _ _ pl8.h1) p1.symm al3
        rw [upd_ne nb]
        refine S8 _ _ (k8 b o (St b o (sv6 b o e nb)) ?_)
        have no : ∀ {G : Hp} {a : Addr}, Sv H G p → G a = none → b ≠ a := fun {G a} sv n z => by
          subst z
          rw [sv _ _ e nb] at n
          cases n
        rintro (z | z | z | z | z | z)
        · exact no sv0 n1 z
        · exact no sv1 n2 z
        · exact no sv2 n3 z
        · exact no sv3 n4 z
        · exact no sv4 n5 z
        · exact no sv5 n6 z
end
end OR

set_option Elab.async false
set_option maxRecDepth 100000
set_option maxHeartbeats 8000000
set_option linter.all false
namespace OR
open PySem PySem.Spec PyProof.Rows L2 TS2
def namesAll (which : List Str) (fl : List AnyRow) : List Str := (fl.map fun x => named which (fsOf x.2.1) x.2.2).flatten
theorem namesAll_snoc (which : List Str) (fl : List AnyRow) (x : AnyRow) : namesAll which (fl ++ [x]) = namesAll which fl ++ named which (fsOf x.2.1) x.2.2 := by
  unfold namesAll
  rw [List.map_append, List.flatten_append]
  simp
theorem namesAll_take (which : List Str) (fl : List AnyRow) (i : Nat) : (namesAll which (fl.take i)).length ≤ (namesAll which fl).length := by
  unfold namesAll
  conv => rhs; rw [← List.take_append_drop i fl]
  rw [List.map_append, List.flatten_append, List.length_append]
  omega
theorem names_set {P : PySem.Program} {w : World} {K : PySem.W.Frag} {fa : Addr} {x1 x2 x3 x4 x5 x6 : Option V} {H H0 : Hp} {F : List V} {fl : List AnyRow} {n1 n2 : Str} {Q : VK} (hf : H fa = some (.lst F)) (hal : All2 (AnyAt K H0) fl F) (S0 : Same H0 H)
    (ok : ∀ x ∈ fl, (x.2.1, fsOf x.2.1) ∈ ftab ∧ KindsOk (fsOf x.2.1) x.2.2 ∧ (named [n1, n2] (fsOf x.2.1) x.2.2).length ≤ 1000) (nk : ∀ f ∈ [n1, n2], f ≠ "rows" ∧ f ≠ "sides") (few : (namesAll [n1, n2] fl).length ≤ 4000)
    (k : ∀ H' D, Same H H' → H D = none → H' D = some (TxO P w D (uniq (namesAll [n1, n2] fl))) → Q (.ref D) H') :
    tSc2 P w (iList K (tVar 0)) (gName 4) (iList K (tCall (spNamed K) [] E0 (tCons (tVar 4) (tCons (tTup (tCons (tC (.str n1)) (tCons (tC (.str n2)) tNil))) tNil)))) (gName 5) (tVar 5) [4, 5] [5] [some (.ref fa), x1, x2, x3, x4, x5, x6] H Q := by
  refine ⟨_, rfl, fa, rfl, ⟨_, SqL.of hf⟩, fun D nD => ?_⟩
  have fD : fa ≠ D := ne_of_none hf nD
  have keep : ∀ {H' : Hp}, Kp (· = D) (upd H D (TxO P w D [])) H' → Same H H' := fun k b o e => k b o (by rw [upd_ne (ne_of_none e nD)]; exact e) (ne_of_none e nD)
  refine out_it (walk_list (K := K) (a := fa) (xs := F)) (fun i H' => Kp (· = D) (upd H D (TxO P w D [])) H' ∧ H' D = some (TxO P w D (uniq (namesAll [n1, n2] (fl.take i))))) ⟨Kp.refl _, by rw [upd_same]; rfl⟩
    (fun i H' _ q => SqL.of (keep q.1 _ _ hf)) (fun i x H2 H3 hi q y => ?_) (fun H2 q => ?_)
  · obtain ⟨rfl, hx⟩ := y
    obtain ⟨kq, hD⟩ := q
    obtain ⟨a, ha, haa⟩ := hal.other hx
    obtain ⟨o1, o2, o3⟩ := ok a (List.mem_of_getElem? ha)
    have tl := namesAll_take [n1, n2] fl (i + 1)
    rw [take_more ha, namesAll_snoc, List.length_append] at tl
    refine ⟨rfl, ?_⟩
    refine ⟨_, rfl, by show 2 ≤ sizeLine; decide, fun t nt => ?_⟩
    have S1 : Same H3 (upd H3 t (.tup [.str n1, .str n2])) := Same.new nt
    have ht : upd H3 t (.tup [.str n1, .str n2]) t = some (.tup [.str n1, .str n2]) := upd_same
    generalize upd H3 t (.tup [.str n1, .str n2]) = H4 at S1 ht ⊢
    have SH4 := (keep kq).trans S1
    refine ⟨x, t, [n1, n2], H0, a.1, a.2, fsOf a.2.1, rfl, SqT.of ht, haa, S0.trans SH4, o1, o2, nk, o3, fun H5 L S5 nL hL => ?_⟩
    have hD5 := S5 _ _ (S1 _ _ hD)
    have LD : L ≠ D := fun z => by rw [z, S1 _ _ hD] at nL; cases nL
    refine ⟨L, rfl, ⟨_, SqL.of hL⟩, ?_⟩
    refine out_it (walk_list (K := K) (a := L) (xs := (named [n1, n2] (fsOf a.2.1) a.2.2).map V.str)) (fun j H' => Kp (· = D) H5 H' ∧ H' D = some (TxO P w D (uniq (namesAll [n1, n2] (fl.take i) ++ (named [n1, n2] (fsOf a.2.1) a.2.2).take j)))) ⟨Kp.refl _, by rw [hD5]; simp⟩
      (fun j H' _ q => SqL.of (q.1 _ _ hL LD)) (fun j x H6 H7 hj q y => ?_) (fun H6 q => ?_)
    · obtain ⟨rfl, hx2⟩ := y
      obtain ⟨kp, hD6⟩ := q
      rw [List.getElem?_map] at hx2
      cases ez : (named [n1, n2] (fsOf a.2.1) a.2.2)[j]? with
      | none => rw [ez] at hx2; cases hx2
      | some z =>
        rw [ez] at hx2
        cases Option.some.inj hx2
        refine ⟨rfl, ?_⟩
        refine ⟨_, rfl, z, _, rfl, hD6, ?_, fun b o e n => ?_, ?_⟩
        · have h1 := uniq_le (namesAll [n1, n2] (fl.take i) ++ (named [n1, n2] (fsOf a.2.1) a.2.2).take j)
          have h2 : ((named [n1, n2] (fsOf a.2.1) a.2.2).take j).length ≤ (named [n1, n2] (fsOf a.2.1) a.2.2).length := by rw [List.length_take]; omega
          rw [List.length_append] at h1
          have sb : scanBound = 4096 := rfl
          omega
        · rw [upd_ne n]
          exact kp b o e n
        · rw [upd_same, take_more ez, ← List.append_assoc, uniq_snoc]
    · obtain ⟨kp, hD6⟩ := q
      refine ⟨fun b o e n => kp b o (S5 _ _ (S1 _ _ (kq b o e n))) n, ?_⟩
      rw [hD6, take_more ha, namesAll_snoc, List.length_map, List.take_length]
  · obtain ⟨kq, hD⟩ := q
    rw [← hal.len, List.take_length] at hD
    exact k H2 D (keep kq) nD hD
def spNamedIn (K : PySem.W.Frag) : Sp := fun vs H Q _ => ∃ (fa : Addr) (F : List V) (H0 : Hp) (fl : List AnyRow), vs = [.ref fa] ∧ H fa = some (.lst F) ∧ All2 (AnyAt K H0) fl F ∧ Same H0 H ∧
  (∀ x ∈ fl, (x.2.1, fsOf x.2.1) ∈ ftab ∧ KindsOk (fsOf x.2.1) x.2.2 ∧ ∀ which, (named which (fsOf x.2.1) x.2.2).length ≤ 1000) ∧ (∀ which, (namesAll which fl).length ≤ 4000) ∧
  ∀ (H' : Hp) (d a b c : Addr) (ys zs gs : List Str), Same H H' → H' d = some (.dK [(.inr "labels", .ref a), (.inr "slots", .ref b), (.inr "gates", .ref c)]) → H d = none → H' a = some (.lst (ys.map V.str)) → H' b = some (.lst ((zs.filter fun z : Str => decide (z ≠ "in")).map V.str)) → H' c = some (.lst (gs.map V.str)) →
    ys.Perm (uniq (namesAll ["label", "labels"] fl)) → zs.Perm (uniq (namesAll ["slot", "source"] fl)) → gs.Perm (uniq (namesAll ["gate", "edit"] fl)) → Q (.ref d) H'
section
variable {P : Program} {w : World} {K : PySem.W.Frag} {mg : Str → Option Value} {base : Heap}
theorem ok_named_in {f : Addr} {fd : FuncData} (F0 : FnP K "named_in" "named_in" s_named_in f fd) (T : Tx w K mg) (G_words_named : Def P w K mg base CX0 1 "words_named" p_words_named (spNamed K)) : FnOk P w K mg base CX0 2 f fd p_named_in (spNamedIn K) := by
  refine F0.ok sc_named_in (fun vs H Q E h => ?_) (fun cdv A outer s H vs Q E hr h => ?_)
  · obtain ⟨fa, _, _, _, rfl, _⟩ := h
    rfl
  · obtain ⟨fa, F, H0, fl, rfl, hf, hal, S0, ok, few, k⟩ := h
    obtain ⟨t1, mINPUT_SLOT⟩ := T.m_INPUT_SLOT
    refine ⟨_, PSs.nox (pss_cons (ps_set (i := 1) sc_named_in.nd rfl (.inl rfl) (pe_callB (cr_sortedTx rfl) (by rfl) T.b_sorted (by decide +kernel) (pa_cons (pe_sc2 (own := [("row", 4), ("word", 5)]) (g := gName 4) (g1 := gName 5) (vs1 := [5]) (by rfl) sc_named_in.nd (pi_list (pv 0)) (blkOk_by (N := n_named_in) (sc := defScope s_named_in) (by decide +kernel)) (by decide) (fun _ _ _ _ _ => (pg_name (i := 4) sc_named_in.nd rfl (.inl rfl))) (fun _ _ _ _ _ => (show PI _ _ _ (iList K _) from pi_list (pe_fn G_words_named (hr.mono (by decide)) (by rfl) pass0 (pa_cons (pv 4) (pa_cons (pe_tup (pa_cons pe_str (pa_cons pe_str pa_nil))) pa_nil))))) (fun _ _ _ _ _ => (pg_name (i := 5) sc_named_in.nd rfl (.inl rfl))) (fun _ _ _ _ _ => (pv 5))) pa_nil)))
 (pss_cons (ps_set (i := 2) sc_named_in.nd rfl (.inl rfl) (pe_callB (cr_sortedTx rfl) (by rfl) T.b_sorted (by decide +kernel) (pa_cons (pe_sc2 (own := [("row", 4), ("word", 5)]) (g := gName 4) (g1 := gName 5) (vs1 := [5]) (by rfl) sc_named_in.nd (pi_list (pv 0)) (blkOk_by (N := n_named_in) (sc := defScope s_named_in) (by decide +kernel)) (by decide) (fun _ _ _ _ _ => (pg_name (i := 4) sc_named_in.nd rfl (.inl rfl))) (fun _ _ _ _ _ => (show PI _ _ _ (iList K _) from pi_list (pe_fn G_words_named (hr.mono (by decide)) (by rfl) pass0 (pa_cons (pv 4) (pa_cons (pe_tup (pa_cons pe_str (pa_cons pe_str pa_nil))) pa_nil))))) (fun _ _ _ _ _ => (pg_name (i := 5) sc_named_in.nd rfl (.inl rfl))) (fun _ _ _ _ _ => (pv 5))) pa_nil)))
 (pss_cons (ps_set (i := 3) sc_named_in.nd rfl (.inl rfl) (pe_callB (cr_sortedTx rfl) (by rfl) T.b_sorted (by decide +kernel) (pa_cons (pe_sc2 (own := [("row", 4), ("word", 5)]) (g := gName 4) (g1 := gName 5) (vs1 := [5]) (by rfl) sc_named_in.nd (pi_list (pv 0)) (blkOk_by (N := n_named_in) (sc := defScope s_named_in) (by decide +kernel)) (by decide) (fun _ _ _ _ _ => (pg_name (i := 4) sc_named_in.nd rfl (.inl rfl))) (fun _ _ _ _ _ => (show PI _ _ _ (iList K _) from pi_list (pe_fn G_words_named (hr.mono (by decide)) (by rfl) pass0 (pa_cons (pv 4) (pa_cons (pe_tup (pa_cons pe_str (pa_cons pe_str pa_nil))) pa_nil))))) (fun _ _ _ _ _ => (pg_name (i := 5) sc_named_in.nd rfl (.inl rfl))) (fun _ _ _ _ _ => (pv 5))) pa_nil)))
 (pss_one (ps_ret (pe_disp (pps_cons pe_str (pv 1) (pps_cons pe_str (pe_lc (own := [("slot", 6)]) (g := gName 6) (by rfl) sc_named_in.nd (pi_list (pv 2)) (blkOk_by (N := n_named_in) (sc := defScope s_named_in) (by decide +kernel)) (fun _ _ _ _ _ => (pg_name (i := 6) sc_named_in.nd rfl (.inl rfl))) (fun _ _ _ _ _ => (pts_one (pt_cmpR op_ne (pv 6) (pe_glob (by rfl) mINPUT_SLOT (show RelV (.str "in") _ from ⟨_, rfl⟩)) (nomark _)))) (fun _ _ _ _ _ => (pv 6))) (pps_cons pe_str (pv 3) pps_nil))) (by rfl) (by rfl) (fun z => by cases z) (by decide))))))), ?_⟩
    have sb : scanBound = 4096 := rfl
    have lq : ∀ which, (uniq (namesAll which fl)).length < scanBound := fun which => by have h1 := uniq_le (namesAll which fl); have h2 := few which; omega
    have okw : ∀ n1 n2 : Str, ∀ x ∈ fl, (x.2.1, fsOf x.2.1) ∈ ftab ∧ KindsOk (fsOf x.2.1) x.2.2 ∧ (named [n1, n2] (fsOf x.2.1) x.2.2).length ≤ 1000 := fun n1 n2 x hx => ⟨(ok x hx).1, (ok x hx).2.1, (ok x hx).2.2 _⟩
    dsimp only [tSeq, tAsg, tCB, tCons, gName]
    refine names_set (n1 := "label") (n2 := "labels") hf hal S0 (okw _ _) (by decide +kernel) (few _) (fun H1 D1 S1 n1 h1 => ?_)
    refine ⟨D1, _, rfl, h1, lq _, fun ys a pm1 _ na => ?_⟩
    have S2 : Same H1 (upd H1 a (.lst (ys.map V.str))) := Same.new na
    have h2 : upd H1 a (.lst (ys.map V.str)) a = some (.lst (ys.map V.str)) := upd_same
    generalize upd H1 a (.lst (ys.map V.str)) = H2 at S2 h2 ⊢
    have SH2 := S1.trans S2
    dsimp only [tSeq, tAsg, tCB, tCons, gName]
    refine names_set (n1 := "slot") (n2 := "source") (SH2 _ _ hf) hal (S0.trans SH2) (okw _ _) (by decide +kernel) (few _) (fun H3 D3 S3 n3 h3 => ?_)
    refine ⟨D3, _, rfl, h3, lq _, fun zs b pm2 _ nb => ?_⟩
    have S4 : Same H3 (upd H3 b (.lst (zs.map V.str))) := Same.new nb
    have h4 : upd H3 b (.lst (zs.map V.str)) b = some (.lst (zs.map V.str)) := upd_same
    generalize upd H3 b (.lst (zs.map V.str)) = H4 at S4 h4 ⊢
    have SH4 := SH2.trans (S3.trans S4)
    dsimp only [tSeq, tAsg, tCB, tCons, gName]
    refine names_set (n1 := "gate") (n2 := "edit") (SH4 _ _ hf) hal (S0.trans SH4) (okw _ _) (by decide +kernel) (few _) (fun H5 D5 S5 n5 h5 => ?_)
    refine ⟨D5, _, rfl, h5, lq _, fun gs c pm3 _ nc => ?_⟩
    have S6 : Same H5 (upd H5 c (.lst (gs.map V.str))) := Same.new nc
    have h6 : upd H5 c (.lst (gs.map V.str)) c = some (.lst (gs.map V.str)) := upd_same
    generalize upd H5 c (.lst (gs.map V.str)) = H6 at S6 h6 ⊢
    have SH6 := SH4.trans (S5.trans S6)
    have ha6 : H6 a = some (.lst (ys.map V.str)) := (S5.trans S6) _ _ ((S3.trans S4) _ _ h2)
    have hb6 : H6 b = some (.lst (zs.map V.str)) := (S5.trans S6) _ _ h4
    intro p np
    have S7 : Same H6 (upd H6 p (.dK [])) := Same.new np
    have hp : upd H6 p (.dK []) p = some (.dK []) := upd_same
    have ap : a ≠ p := ne_of_none ha6 np
    have bp : b ≠ p := ne_of_none hb6 np
    have cp : c ≠ p := ne_of_none h6 np
    generalize upd H6 p (.dK []) = H7 at S7 hp ⊢
    have hb7 := S7 _ _ hb6
    refine ⟨_, rfl, _, rfl, b, rfl, ⟨_, SqL.of hb7⟩, fun D nD => ?_⟩
    have bD : b ≠ D := ne_of_none hb7 nD
    have pD : p ≠ D := ne_of_none hp nD
    have lz : zs.length ≤ 4000 := by rw [pm2.length_eq]; have := uniq_le (namesAll ["slot", "source"] fl); have := few ["slot", "source"]; omega
    refine lc_it (walk_list (K := K) (a := b) (xs := zs.map V.str)) (fun i H' => Kp (· = D) (upd H7 D (.lst [])) H' ∧ H' D = some (.lst (((zs.take i).filter fun z : Str => decide (z ≠ "in")).map V.str))) ⟨Kp.refl _, upd_same⟩
      (fun i H' _ q => SqL.of (q.1 _ _ (by rw [upd_ne bD]; exact hb7) bD)) (fun i x H8 H9 hi q y => ?_) (fun H8 q => ?_)
    · obtain ⟨rfl, hx⟩ := y
      obtain ⟨kq, hD⟩ := q
      rw [List.getElem?_map] at hx
      cases ez : zs[i]? with
      | none => rw [ez] at hx; cases hx
      | some z =>
        rw [ez] at hx
        cases Option.some.inj hx
        refine ⟨rfl, ?_⟩
        refine ⟨_, rfl, rfl, ?_⟩
        have ee : (!decide (V.str z = V.str "in")) = decide (z ≠ "in") := by by_cases q : z = "in" <;> simp [q]
        rw [ee]
        by_cases cz : z = "in"
        · refine ⟨_, rfl, ?_⟩
          refine iteF' (by simp [cz]) ?_
          refine ⟨kq, ?_⟩
          rw [hD, take_more ez, List.filter_append, List.filter_cons_of_neg (by simp [cz])]
          simp
        · refine ⟨_, rfl, ?_⟩
          refine iteT' (by simp [cz]) ?_
          refine ⟨_, rfl, _, hD, ?_, fun u o e n => ?_, ?_⟩
          · rw [List.length_map]
            have h1 := List.length_filter_le (fun z : Str => decide (z ≠ "in")) (zs.take i)
            rw [List.length_take] at h1
            rw [sizeLine_eq]
            omega
          · rw [upd_ne n]
            exact kq u o e n
          · rw [upd_same, take_more ez, List.filter_append, List.filter_cons_of_pos (by simp [cz])]
            simp
    · obtain ⟨kq, hD⟩ := q
      rw [List.length_map, List.take_length] at hD
      have S8 : Same H7 H8 := fun u o e => kq u o (by rw [upd_ne (ne_of_none e nD)]; exact e) (ne_of_none e nD)
      refine ⟨_, rfl, S8 _ _ hp, [(.inr "labels", .ref a), (.inr "slots", .ref D), (.inr "gates", .ref c)], rfl, by show 3 ≤ 15; decide, ?_⟩
      have Hp0 : H p = none := SH6.free np
      refine k _ p a D c ys zs gs (fun u o e => ?_) (by rw [upd_same]; rfl) Hp0 ?_ ?_ ?_ pm1 pm2 pm3
      · rw [upd_ne (ne_of_none e Hp0)]
        exact S8 _ _ (S7 _ _ (SH6 _ _ e))
      · rw [upd_ne ap]
        exact S8 _ _ (S7 _ _ ha6)
      · rw [upd_ne pD.symm]
        exact hD
      · rw [upd_ne cp]
        exact S8 _ _ (S7 _ _ h6)
end
end OR

set_option Elab.async false
set_option maxRecDepth 100000
set_option maxHeartbeats 8000000
set_option linter.all false
namespace OR
open PySem PySem.Spec PyProof.Rows L2 TS2
def fault4 (n l s g : Nat) : Option Str := if 60 < n then some "size" else if 6 < l then some "labels" else if 4 < s then some "slots" else if 8 < g then some "gates" else none
def spSizes (K : PySem.W.Frag) : Sp := fun vs H Q E => ∃ (p dx d fa a b c : Addr) (F A B C : List V) (more : List (Str × V)), vs = [.ref p, .ref d] ∧ H p = some (.ins (He.ga K "Plan") dx (("flat", .ref fa) :: more)) ∧ H fa = some (.lst F) ∧
  H d = some (.dK [(.inr "labels", .ref a), (.inr "slots", .ref b), (.inr "gates", .ref c)]) ∧ H a = some (.lst A) ∧ H b = some (.lst B) ∧ H c = some (.lst C) ∧
  (fault4 F.length A.length B.length C.length = none → Q .non H) ∧ (∀ part, fault4 F.length A.length B.length C.length = some part → Refuses K (fun _ => False) H part [] E)
theorem refused0 {K : PySem.W.Frag} {C : Addr → Prop} {H H8 : Hp} {tp : Addr} {path : List Int} {E : XK} {part : Str} (k : Kp C H H8) (n : ∀ d0, H8 d0 = none → H d0 = none) (ht : SqT K H8 tp (path.map V.int)) (r : Refuses K C H part path E) (d0 : Addr) (H' : Hp) (nd : H8 d0 = none)
    (hd : H' d0 = some (.xd [("path", .ref tp), ("part", .str part)])) (oth : ∀ b, b ≠ d0 → H' b = H8 b) : E (.ref (cIP K)) (some d0) H' := by
  have S : Same H8 H' := fun b o h => by rw [oth b (ne_of_none h nd)]; exact h
  exact r d0 tp H' (k.trans (Kp.of S)) (n d0 nd) hd (sameT S ht)
/-- one entry's answer -/
inductive WordsIs (K : PySem.W.Frag) (H : Hp) (m : Int) : V → Bool → Prop
  | tup {a : Addr} {ws : List Str} (h : SqT K H a (ws.map V.str)) (z : ∀ x ∈ ws, x.length ≤ 1000) (few : ws.length ≤ 1000) : WordsIs K H m (.ref a) (areW m ws)
  | no {v : V} (h : NotA K H v "tuple") : WordsIs K H m v false
inductive RoomIs : V → Bool → Prop
  | int (i : Int) : RoomIs (.int i) (decide (1 ≤ i) && decide (i ≤ 3))
  | bl (c : Bool) : RoomIs (.bl c) false
inductive EntryIs (K : PySem.W.Frag) (H : Hp) (part : Str) : V → Bool → Prop
  | asks {v : V} {b : Bool} (e : part = "asks") (h : WordsIs K H 4 v b) : EntryIs K H part v b
  | sigN {v : V} (e : part ≠ "asks") (h : NotA K H v "tuple") : EntryIs K H part v false
  | sig {a : Addr} {r w : V} {br bw : Bool} (e : part ≠ "asks") (h : SqT K H a [r, w]) (hr : RoomIs r br) (hw : WordsIs K H 3 w bw) : EntryIs K H part (.ref a) (br && bw)
theorem NotA.same {K : PySem.W.Frag} {H H' : Hp} {v : V} {x : String} (s : Same H H') (t : ∀ ty, TyX K H v ty → TyX K H' v ty) (h : NotA K H v x) : NotA K H' v x := by
  obtain ⟨ty, h1, h2⟩ := h
  exact ⟨ty, t ty h1, h2⟩
def spEntry (K : PySem.W.Frag) : Sp := fun vs H Q _ => ∃ (v : V) (part : Str) (b : Bool), vs = [v, .str part] ∧ EntryIs K H part v b ∧ ∀ H', Same H H' → Q (.bl b) H'
section
variable {P : Program} {w : World} {K : PySem.W.Frag} {mg : Str → Option Value} {base : Heap}
theorem ok_check_sizes {f : Addr} {fd : FuncData} (F0 : FnP K "check_sizes" "check_sizes" s_check_sizes f fd) (T : Tx w K mg) (E_InvalidProgram : ErrDef P w K mg base CX0 1 "InvalidProgram" (cIP K) ["self", "part", "path"] ["part", "path"]) :
    FnOk P w K mg base (L2.CX P w) 3 f fd p_check_sizes (spSizes K) := by
  refine F0.ok sc_check_sizes (fun vs H Q E h => ?_) (fun cdv A outer s H vs Q E hr h => ?_)
  · obtain ⟨p, dx, d, _, _, _, _, _, _, _, _, _, rfl, _⟩ := h
    rfl
  · obtain ⟨p, dx, d, fa, a, b, c, F, A1, B1, C1, more, rfl, hp, hf, hd, ha, hb, hc, kq, ke⟩ := h
    have hu := hu_of hr
    obtain ⟨t1, mMOST_ROWS⟩ := T.m_MOST_ROWS
    obtain ⟨t2, mMOST_LABELS⟩ := T.m_MOST_LABELS
    obtain ⟨t3, mMOST_SLOTS⟩ := T.m_MOST_SLOTS
    obtain ⟨t4, mMOST_GATES⟩ := T.m_MOST_GATES
    have rf : ∀ {part : Str}, Refuses K (fun _ => False) H part [] E → ∀ (t : Addr), H t = none → ∀ (d0 : Addr) (H' : Hp), upd H t (.tup []) d0 = none → H' d0 = some (.xd [("path", .ref t), ("part", .str part)]) → (∀ b, b ≠ d0 → H' b = upd H t (.tup []) b) → E (.ref (cIP K)) (some d0) H' := fun r t nt =>
      refused0 (path := []) (Kp.of (Same.new nt)) (fun d0 n => (Same.new nt).free n) (SqT.of upd_same) r
    refine ⟨_, (pss_cons (ps_if (pt_cmpR op_gt (pe_callB call_len_seq (by rfl) T.b_len PySem.boot_len (pa_cons (pe_fld (pv 0) rfl) pa_nil)) (pe_glob (by rfl) mMOST_ROWS (show RelV (.int (60)) _ from ⟨_, rfl⟩)) (nomark _)) (pss_one (ps_raise rfl (takes_of rfl rfl rfl rfl) (pmk_errL E_InvalidProgram (hr.mono (by omega)) (by rfl) pass0 (pa_cons pe_str (pa_cons (pe_tup pa_nil) pa_nil))))) pss_nil)
      (pss_cons (ps_if (pt_cmpR op_gt (pe_callB call_len_seq (by rfl) T.b_len PySem.boot_len (pa_cons (pe_dget hu (pv 1) pe_str (fun _ _ => rfl)) pa_nil)) (pe_glob (by rfl) mMOST_LABELS (show RelV (.int (6)) _ from ⟨_, rfl⟩)) (nomark _)) (pss_one (ps_raise rfl (takes_of rfl rfl rfl rfl) (pmk_errL E_InvalidProgram (hr.mono (by omega)) (by rfl) pass0 (pa_cons pe_str (pa_cons (pe_tup pa_nil) pa_nil))))) pss_nil)
      (pss_cons (ps_if (pt_cmpR op_gt (pe_callB call_len_seq (by rfl) T.b_len PySem.boot_len (pa_cons (pe_dget hu (pv 1) pe_str (fun _ _ => rfl)) pa_nil)) (pe_glob (by rfl) mMOST_SLOTS (show RelV (.int (4)) _ from ⟨_, rfl⟩)) (nomark _)) (pss_one (ps_raise rfl (takes_of rfl rfl rfl rfl) (pmk_errL E_InvalidProgram (hr.mono (by omega)) (by rfl) pass0 (pa_cons pe_str (pa_cons (pe_tup pa_nil) pa_nil))))) pss_nil)
      (pss_one (ps_if (pt_cmpR op_gt (pe_callB call_len_seq (by rfl) T.b_len PySem.boot_len (pa_cons (pe_dget hu (pv 1) pe_str (fun _ _ => rfl)) pa_nil)) (pe_glob (by rfl) mMOST_GATES (show RelV (.int (8)) _ from ⟨_, rfl⟩)) (nomark _)) (pss_one (ps_raise rfl (takes_of rfl rfl rfl rfl) (pmk_errL E_InvalidProgram (hr.mono (by omega)) (by rfl) pass0 (pa_cons pe_str (pa_cons (pe_tup pa_nil) pa_nil))))) pss_nil))))), ?_⟩
    refine ⟨_, rfl, p, _, dx, _, _, rfl, hp, T.c_Plan, T.n_Plan_flat, rfl, fa, _, rfl, .inl (SqL.of hf), _, _, rfl, rfl, _, rfl, ?_⟩
    by_cases c1 : 60 < F.length
    · refine iteT' (decide_eq_true (by omega)) ?_
      refine ⟨by show 0 ≤ sizeLine; decide, fun t nt => ⟨rfl, rf (ke "size" (by unfold fault4; rw [if_pos c1])) t nt⟩⟩
    refine iteF' (decide_eq_false (by omega)) ?_
    refine ⟨_, rfl, d, _, rfl, (show DGet H d (.str "labels") (some (.ref a)) from DGet.k (k := .inr "labels") hd), a, _, rfl, .inl (SqL.of ha), _, _, rfl, rfl, _, rfl, ?_⟩
    by_cases c2 : 6 < A1.length
    · refine iteT' (decide_eq_true (by omega)) ?_
      refine ⟨by show 0 ≤ sizeLine; decide, fun t nt => ⟨rfl, rf (ke "labels" (by unfold fault4; rw [if_neg c1, if_pos c2])) t nt⟩⟩
    refine iteF' (decide_eq_false (by omega)) ?_
    refine ⟨_, rfl, d, _, rfl, (show DGet H d (.str "slots") (some (.ref b)) from DGet.k (k := .inr "slots") hd), b, _, rfl, .inl (SqL.of hb), _, _, rfl, rfl, _, rfl, ?_⟩
    by_cases c3 : 4 < B1.length
    · refine iteT' (decide_eq_true (by omega)) ?_
      refine ⟨by show 0 ≤ sizeLine; decide, fun t nt => ⟨rfl, rf (ke "slots" (by unfold fault4; rw [if_neg c1, if_neg c2, if_pos c3])) t nt⟩⟩
    refine iteF' (decide_eq_false (by omega)) ?_
    refine ⟨_, rfl, d, _, rfl, (show DGet H d (.str "gates") (some (.ref c)) from DGet.k (k := .inr "gates") hd), c, _, rfl, .inl (SqL.of hc), _, _, rfl, rfl, _, rfl, ?_⟩
    by_cases c4 : 8 < C1.length
    · refine iteT' (decide_eq_true (by omega)) ?_
      refine ⟨by show 0 ≤ sizeLine; decide, fun t nt => ⟨rfl, rf (ke "gates" (by unfold fault4; rw [if_neg c1, if_neg c2, if_neg c3, if_pos c4])) t nt⟩⟩
    refine iteF' (decide_eq_false (by omega)) ?_
    exact kq (by unfold fault4; rw [if_neg c1, if_neg c2, if_neg c3, if_neg c4])
theorem ok_is_entry {f : Addr} {fd : FuncData} (F0 : FnP K "is_entry" "is_entry" s_is_entry f fd) (T : Tx w K mg) (G_is_integer : Def P w K mg base CX0 1 "is_integer" p_is_integer spIsInt) (G_are_words : Def P w K mg base CX0 2 "are_words" p_are_words (spAreWords K)) :
    FnOk P w K mg base CX0 3 f fd p_is_entry (spEntry K) := by
  refine F0.ok sc_is_entry (fun vs H Q E h => ?_) (fun cdv A outer s H vs Q E hr h => ?_)
  · obtain ⟨v, part, _, rfl, _⟩ := h
    rfl
  · obtain ⟨v, part, b, rfl, he, k⟩ := h
    obtain ⟨t1, mMOST_ANSWERS⟩ := T.m_MOST_ANSWERS
    obtain ⟨t2, mMOST_ROOM⟩ := T.m_MOST_ROOM
    obtain ⟨t3, mMOST_SIGNAL_WORDS⟩ := T.m_MOST_SIGNAL_WORDS
    refine ⟨_, PSs.nox (pss_cons (ps_if (pt_cmpR op_eq (pv 1) pe_str (nomark _)) (pss_one (ps_ret (pe_fn G_are_words (hr.mono (by omega)) (by rfl) pass0 (pa_cons (pv 0) (pa_cons (pe_glob (by rfl) mMOST_ANSWERS (show RelV (.int (4)) _ from ⟨_, rfl⟩)) pa_nil))))) pss_nil)
      (pss_cons (ps_if (PW.pt (pw_or (pt_not (pt_val (pe_callB call_isi (by rfl) T.b_isinstance (by decide +kernel) (pa_cons (pv 0) (pa_cons (pe_bltn (v := .ty "tuple") (u := .type "tuple") (by rfl) T.b_tuple (by decide +kernel) rfl) pa_nil))))) (pw_or1 (pt_cmpR op_ne (pe_callB call_len_seq (by rfl) T.b_len PySem.boot_len (pa_cons (pv 0) pa_nil)) pe_int (nomark _))))) (pss_one (ps_ret pe_bl)) pss_nil)
      (pss_cons (ps_asg (pv 0) (pg_tup (by rfl) (pgs_cons (pg_name (i := 2) sc_is_entry.nd rfl (.inl rfl)) (pgs_cons (pg_name (i := 3) sc_is_entry.nd rfl (.inl rfl)) pgs_nil))))
      (pss_one (ps_ret (pe_and (pe_fn G_is_integer (hr.mono (by omega)) (by rfl) pass0 (pa_cons (pv 2) pa_nil)) (pe_and (pe_chain op_le op_le pe_int (pv 2) (pe_glob (by rfl) mMOST_ROOM (show RelV (.int (3)) _ from ⟨_, rfl⟩))) (pe_one (pe_fn G_are_words (hr.mono (by omega)) (by rfl) pass0 (pa_cons (pv 3) (pa_cons (pe_glob (by rfl) mMOST_SIGNAL_WORDS (show RelV (.int (3)) _ from ⟨_, rfl⟩)) pa_nil))))))))))), ?_⟩
    refine ⟨_, rfl, rfl, _, rfl, ?_⟩
    cases he with
    | asks e hw =>
      refine iteT' (decide_eq_true (by rw [e])) ?_
      refine ⟨_, rfl, v, 4, rfl, ?_⟩
      cases hw with
      | tup h z few => exact .inl ⟨_, _, rfl, h, fun x hx => Nat.le_of_lt (small1000 (z x hx)), few, k⟩
      | no h => exact .inr ⟨h, k H (Same.refl H)⟩
    | sigN e h =>
      obtain ⟨ty, n1, n2⟩ := h
      refine iteF' (decide_eq_false fun z => e (by injection z)) ?_
      refine ⟨_, rfl, v, .ty "tuple", _, _, false, rfl, .ty _, n1, n2, _, rfl, ?_⟩
      refine iteT ?_
      refine iteT ?_
      exact k H (Same.refl H)
    | sig e h hr2 hw =>
      rename_i a r w1 br bw
      refine iteF' (decide_eq_false fun z => e (by injection z)) ?_
      refine ⟨_, rfl, .ref a, .ty "tuple", _, _, true, rfl, .ty _, tyT h, kit_ty (by decide +kernel), _, rfl, ?_⟩
      refine iteF ⟨_, rfl, a, _, rfl, .inr h, rfl, _, rfl, ?_⟩
      refine iteF' (by rfl) ?_
      refine ⟨_, rfl, a, _, rfl, h, rfl, _, _, rfl, _, _, rfl, rfl, ?_⟩
      refine ⟨_, rfl, ?_⟩
      cases hr2 with
      | bl c =>
        refine ⟨.bl c, false, rfl, .inr (.inl ⟨c, rfl, rfl⟩), ?_⟩
        refine ⟨_, rfl, ?_⟩
        exact iteF (k H (Same.refl H))
      | int i =>
        refine ⟨.int i, true, rfl, .inl ⟨i, rfl, rfl⟩, ?_⟩
        refine ⟨_, rfl, iteT ?_⟩
        refine tchainC (i := 1) (j := i) (c := 3) val_c (val_var rfl) ?_
        refine ⟨_, rfl, ?_⟩
        have k' : ∀ H', Same H H' → Q (.bl ((decide (1 ≤ i) && decide (i ≤ 3)) && bw)) H' := k
        cases eb : (decide (1 ≤ i) && decide (i ≤ 3)) with
        | false =>
          rw [eb] at k'
          exact iteF (k' H (Same.refl H))
        | true =>
          rw [eb] at k'
          refine iteT ⟨_, rfl, w1, 3, rfl, ?_⟩
          cases hw with
          | tup h2 z few => exact .inl ⟨_, _, rfl, h2, fun x hx => Nat.le_of_lt (small1000 (z x hx)), few, k'⟩
          | no h2 => exact .inr ⟨h2, k' H (Same.refl H)⟩
end
end OR

set_option Elab.async false
set_option maxRecDepth 100000
set_option maxHeartbeats 8000000
set_option linter.all false
namespace OR
open PySem PySem.Spec PyProof.Rows L2 TS2
/-- a table's entries: their names, the answers about their values -/
structure TabIs (K : PySem.W.Frag) (H : Hp) (part : Str) (kvs : List (Key × V)) (ns : List Str) (bs : List Bool) : Prop where
  names : kvs.map (·.1) = ns.map Sum.inr
  len : bs.length = kvs.length
  ans : ∀ (i : Nat) (v : V) (b : Bool), (kvs.map (·.2))[i]? = some v → bs[i]? = some b → EntryIs K H part v b
  small : ∀ z ∈ ns, z.length ≤ 1000
def tabOk (ns : List Str) (bs : List Bool) : Bool := (ns.zip bs).all fun x => isWord x.1 && x.2
def spTable (K : PySem.W.Frag) : Sp := fun vs H Q E => ∃ (v : V) (part : Str) (most : Int), vs = [v, .str part, .int most] ∧
  ((v = .non ∧ ∀ D, H D = none → Q (.ref D) (upd H D (.dK []))) ∨ (NotA K H v "dict" ∧ v ≠ .non ∧ Refuses K (fun _ => False) H part [] E) ∨
    ∃ (d : Addr) (kvs : List (Key × V)) (ns : List Str) (bs : List Bool), v = .ref d ∧ H d = some (.dK kvs) ∧ kvs.length ≤ 1000 ∧ (∀ H', Kp (· = d) H H' → TabIs K H' part kvs ns bs) ∧
      (((kvs.length : Int) ≤ most ∧ tabOk ns bs = true) → ∀ H' D, Same H H' → H D = none → H' D = some (.dK kvs) → Q (.ref D) H') ∧ (¬ ((kvs.length : Int) ≤ most ∧ tabOk ns bs = true) → Refuses K (· = d) H part [] E))
theorem tyD {K : PySem.W.Frag} {H : Hp} {a : Addr} {kvs : List (Key × V)} (h : H a = some (.dK kvs)) : TyX K H (.ref a) (.type "dict") := .base (.dK h)
section
variable {P : Program} {w : World} {K : PySem.W.Frag} {mg : Str → Option Value} {base : Heap}
theorem ok_checked_table {f : Addr} {fd : FuncData} (F0 : FnP K "checked_table" "checked_table" s_checked_table f fd) (T : Tx w K mg) (E_InvalidProgram : ErrDef P w K mg base CX0 1 "InvalidProgram" (cIP K) ["self", "part", "path"] ["part", "path"])
    (G_is_word : Def P w K mg base CX0 1 "is_word" p_is_word (spIsWord K)) (G_is_entry : Def P w K mg base CX0 3 "is_entry" p_is_entry (spEntry K)) : FnOk P w K mg base (L2.CX P w) 4 f fd p_checked_table (spTable K) := by
  refine F0.ok sc_checked_table (fun vs H Q E h => ?_) (fun cdv A outer s H vs Q E hr h => ?_)
  · obtain ⟨v, part, most, rfl, _⟩ := h
    rfl
  · obtain ⟨v, part, most, rfl, h⟩ := h
    refine ⟨_, (pss_cons (ps_if (pt_cmpR op_isN (pv 0) pe_non (nomark _)) (pss_one (ps_ret pe_dnewK)) pss_nil)
      (pss_cons (ps_if (PW.pt (pw_or (pt_not (pt_val (pe_callB call_isi (by rfl) T.b_isinstance (by decide +kernel) (pa_cons (pv 0) (pa_cons (pe_bltn (v := .ty "dict") (u := .type "dict") (by rfl) T.b_dict (by decide +kernel) rfl) pa_nil))))) (pw_or1 (pt_cmpR op_gt (pe_callB call_lenD (by rfl) T.b_len PySem.boot_len (pa_cons (pv 0) pa_nil)) (pv 2) (nomark _))))) (pss_one (ps_raise rfl (takes_of rfl rfl rfl rfl) (pmk_errL E_InvalidProgram (hr.mono (by omega)) (by rfl) pass0 (pa_cons (pv 1) (pa_cons (pe_tup pa_nil) pa_nil))))) pss_nil)
      (pss_cons (ps_lock (ps_for (passes_of rfl) rfl (pi_items (pv 0)) (pg_tup (by rfl) (pgs_cons (pg_name (i := 3) sc_checked_table.nd rfl (.inl rfl)) (pgs_cons (pg_name (i := 4) sc_checked_table.nd rfl (.inl rfl)) pgs_nil))) (pss_one (ps_if (PW.pt (pw_or (pt_not (pt_val (pe_fn G_is_word (hr.mono (by omega)) (by rfl) pass0 (pa_cons (pv 3) pa_nil)))) (pw_or1 (pt_not (pt_val (pe_fn G_is_entry (hr.mono (by omega)) (by rfl) pass0 (pa_cons (pv 4) (pa_cons (pv 1) pa_nil)))))))) (pss_one (ps_raise rfl (takes_of rfl rfl rfl rfl) (pmk_errL E_InvalidProgram (hr.mono (by omega)) (by rfl) pass0 (pa_cons (pv 1) (pa_cons (pe_tup pa_nil) pa_nil))))) pss_nil))))
      (pss_one (ps_ret (pe_callTy call_dictD (by rfl) T.b_dict (by decide +kernel) (pa_cons (pv 0) pa_nil))))))), ?_⟩
    refine ⟨_, rfl, rfl, _, rfl, ?_⟩
    rcases h with ⟨rfl, k⟩ | ⟨⟨ty, n1, n2⟩, nn, ke⟩ | ⟨d, kvs, ns, bs, rfl, hd, few, tab, kq, ke⟩
    · refine iteT' (by rfl) ?_
      intro D nD
      exact k D nD
    · refine iteF' (decide_eq_false nn) ?_
      refine ⟨_, rfl, v, .ty "dict", _, _, false, rfl, .ty _, n1, n2, _, rfl, ?_⟩
      refine iteT ?_
      refine iteT ?_
      exact ⟨_, rfl, by show 0 ≤ sizeLine; decide, fun t nt => ⟨rfl, refused0 (path := []) (Kp.of (Same.new nt)) (fun d0 n => (Same.new nt).free n) (SqT.of upd_same) ke⟩⟩
    · refine iteF' (by rfl) ?_
      refine ⟨_, rfl, .ref d, .ty "dict", _, _, true, rfl, .ty _, tyD hd, kit_ty (by decide +kernel), _, rfl, ?_⟩
      refine iteF ?_
      refine ⟨_, rfl, d, kvs, rfl, hd, _, rfl, _, _, rfl, rfl, _, rfl, ?_⟩
      by_cases c1 : (most < (kvs.length : Int))
      · refine iteT' (decide_eq_true c1) ?_
        exact ⟨_, rfl, by show 0 ≤ sizeLine; decide, fun t nt => ⟨rfl, refused0 (path := []) (Kp.of (Same.new nt)) (fun d0 n => (Same.new nt).free n) (SqT.of upd_same) (ke (fun z => by omega))⟩⟩
      refine iteF' (decide_eq_false c1) ?_
      have tab0 := tab H (Kp.refl H)
      have ln : ns.length = kvs.length := by have := congrArg List.length tab0.names; simpa using this.symm
      have lz : (ns.zip bs).length = kvs.length := by rw [List.length_zip, ln, tab0.len]; simp
      have fr : ∀ {Hc : Hp} {u : HO}, Kp (· = d) H Hc → Hc d = some u → ∀ d0, Hc d0 = none → H d0 = none := fun {Hc u} kp hc d0 n => by
        cases q : H d0 with
        | none => rfl
        | some o =>
          by_cases z : d0 = d
          · rw [z, hc] at n; cases n
          · rw [kp _ _ q z] at n; cases n
      refine ⟨d, .dK kvs, hd, trivial, fun od => ?_⟩
      refine ⟨_, rfl, d, od, kvs, rfl, upd_same, ?_⟩
      refine for_it (walk_items (d := d) (o := od) (kvs := kvs)) (fun i σ' H' => (∃ y3 y4, σ' = [some (.ref d), some (.str part), some (.int most), y3, y4]) ∧ H' d = some (.frz od (.dK kvs)) ∧ Kp (· = d) H H' ∧ ((ns.zip bs).take i).all (fun x => isWord x.1 && x.2) = true)
        ⟨⟨_, _, rfl⟩, upd_same, Kp.put rfl, rfl⟩ (fun i σ' H' _ q => q.2.1) (fun i x σ' H3 H4 hi q y => ?_) (fun σ' H' q => ?_)
      · obtain ⟨⟨y3, y4, rfl⟩, hf, kp, al⟩ := q
        obtain ⟨T1, kx, vx, rfl, nT, rfl, hk, hv⟩ := y
        have hkv : kvs[i]? = some kvs[i] := List.getElem?_eq_getElem hi
        have hk : kvs[i]?.map (fun kv => kV kv.1) = some kx := hk
        have hv : kvs[i]?.map Prod.snd = some vx := hv
        have hn : ns[i]? = some (ns[i]'(by omega)) := List.getElem?_eq_getElem _
        have hb : bs[i]? = some (bs[i]'(by rw [tab0.len]; exact hi)) := List.getElem?_eq_getElem _
        generalize ns[i]'(by omega) = z at hn
        generalize bs[i]'(by rw [tab0.len]; exact hi) = bb at hb
        have ek : kx = .str z := by
          have e1 : (kvs.map (·.1))[i]? = (ns.map (Sum.inr : Str → Key))[i]? := by rw [tab0.names]
          rw [List.getElem?_map, List.getElem?_map, hn, hkv] at e1
          rw [hkv] at hk
          have e2 : kvs[i].1 = Sum.inr z := Option.some.inj e1
          have e3 : kV kvs[i].1 = kx := Option.some.inj hk
          rw [← e3, e2]
          rfl
        subst ek
        have hz : (ns.zip bs)[i]? = some (z, bb) := by rw [List.getElem?_zip_eq_some]; exact ⟨hn, hb⟩
        have S1 : Same H3 (upd H3 T1 (.tup [.str z, vx])) := Same.new nT
        refine ⟨T1, _, rfl, SqT.of upd_same, rfl, _, _, rfl, _, _, rfl, rfl, ?_⟩
        have hf4 := S1 _ _ hf
        have kp4 := kp.trans (Kp.of (C := (· = d)) S1)
        generalize upd H3 T1 (.tup [.str z, vx]) = H5 at hf4 kp4 ⊢
        refine ⟨_, rfl, .inl ⟨z, rfl, Nat.le_of_lt (small1000 (tab0.small z (List.mem_of_getElem? hn))), fun H6 S6 => ?_⟩⟩
        have kp6 := kp4.trans (Kp.of (C := (· = d)) S6)
        have hf6 := S6 _ _ hf4
        have bad : (isWord z && bb) = false → ¬ ((kvs.length : Int) ≤ most ∧ tabOk ns bs = true) := fun e q => by
          have := q.2
          unfold tabOk at this
          rw [List.all_eq_true] at this
          have h1 := this _ (List.mem_of_getElem? hz)
          simp only at h1
          rw [e] at h1
          cases h1
        refine ⟨_, rfl, ?_⟩
        cases ew : isWord z with
        | false =>
          refine iteT ?_
          refine ⟨_, rfl, by show 0 ≤ sizeLine; decide, fun t nt => ⟨rfl, ?_⟩⟩
          exact refused0 (path := []) (kp6.trans (Kp.of (Same.new nt))) (fun d0 n => fr kp6 hf6 d0 ((Same.new nt).free n)) (SqT.of upd_same) (ke (bad (by rw [ew]; rfl)))
        | true =>
          refine iteF ?_
          refine ⟨_, rfl, _, rfl, vx, part, bb, rfl, (tab H6 kp6).ans i vx bb (by rw [List.getElem?_map]; exact hv) hb, fun H7 S7 => ?_⟩
          have kp7 := kp6.trans (Kp.of (C := (· = d)) S7)
          have hf7 := S7 _ _ hf6
          refine ⟨_, rfl, ?_⟩
          cases eb : bb with
          | false =>
            refine iteT ?_
            refine ⟨_, rfl, by show 0 ≤ sizeLine; decide, fun t nt => ⟨rfl, ?_⟩⟩
            exact refused0 (path := []) (kp7.trans (Kp.of (Same.new nt))) (fun d0 n => fr kp7 hf7 d0 ((Same.new nt).free n)) (SqT.of upd_same) (ke (bad (by rw [eb]; simp)))
          | true =>
            refine iteF ?_
            refine ⟨⟨_, _, rfl⟩, hf7, kp7, ?_⟩
            rw [take_more hz, List.all_append, al]
            simp [ew, eb]
      · obtain ⟨⟨y3, y4, rfl⟩, hf, kp, al⟩ := q
        refine ⟨hf, ?_⟩
        rw [← lz, List.take_length] at al
        have S9 : Same H (upd H' d (.dK kvs)) := fun b o e => by
          by_cases z : b = d
          · rw [z, upd_same, ← hd, ← z, e]
          · rw [upd_ne z]; exact kp b o e z
        refine ⟨_, rfl, d, kvs, rfl, .inl upd_same, fun D nD => ?_⟩
        exact kq ⟨by omega, al⟩ _ D (S9.trans (Same.new nD)) (S9.free nD) upd_same
end
end OR

set_option Elab.async false
set_option maxRecDepth 100000
set_option maxHeartbeats 8000000
set_option linter.all false
namespace OR
open PySem PySem.Spec PyProof.Rows L2 TS2
/-- an argument that is to be a table, as it stands in H0: what it holds, or that it is refused -/
inductive TabArg (K : PySem.W.Frag) (H0 : Hp) (part : Str) (most : Int) : V → Option (List (Key × V)) → Prop
  | non : TabArg K H0 part most .non (some [])
  | bad {v : V} (n : v ≠ .non) (h : ∀ H', Same H0 H' → NotA K H' v "dict") : TabArg K H0 part most v none
  | good {d : Addr} {kvs : List (Key × V)} {ns : List Str} {bs : List Bool} (h : H0 d = some (.dK kvs)) (few : kvs.length ≤ 1000) (t : ∀ H', Kp (· = d) H0 H' → TabIs K H' part kvs ns bs) (ok : (kvs.length : Int) ≤ most ∧ tabOk ns bs = true) : TabArg K H0 part most (.ref d) (some kvs)
  | wrong {d : Addr} {kvs : List (Key × V)} {ns : List Str} {bs : List Bool} (h : H0 d = some (.dK kvs)) (few : kvs.length ≤ 1000) (t : ∀ H', Kp (· = d) H0 H' → TabIs K H' part kvs ns bs) (no : ¬ ((kvs.length : Int) ≤ most ∧ tabOk ns bs = true)) : TabArg K H0 part most (.ref d) none
theorem tab_call {K : PySem.W.Frag} {H0 H : Hp} {part : Str} {most : Int} {v : V} {o : Option (List (Key × V))} {Q : VK} {E : XK} (t : TabArg K H0 part most v o) (S : Same H0 H) (kq : ∀ kvs, o = some kvs → ∀ H' D, Same H H' → H D = none → H' D = some (.dK kvs) → Q (.ref D) H')
    (ke : o = none → Refuses K (fun b => v = .ref b) H part [] E) : spTable K [v, .str part, .int most] H Q E := by
  have wk : ∀ {C : Addr → Prop}, (∀ b, C b → v = .ref b) → o = none → Refuses K C H part [] E := fun {C} h e dd t H' k nd hd ht => ke e dd t H' (k.mono h) nd hd ht
  refine ⟨v, part, most, rfl, ?_⟩
  cases t with
  | non => exact .inl ⟨rfl, fun D nD => kq [] rfl _ D (Same.new nD) nD upd_same⟩
  | bad n h => exact .inr (.inl ⟨h H S, n, wk (fun _ z => z.elim) rfl⟩)
  | good h few t ok => exact .inr (.inr ⟨_, _, _, _, rfl, S _ _ h, few, fun H' k => t H' ((Kp.of S).trans k), fun _ H' D S' n e => kq _ rfl H' D S' n e, fun no => absurd ok no⟩)
  | wrong h few t no => exact .inr (.inr ⟨_, _, _, _, rfl, S _ _ h, few, fun H' k => t H' ((Kp.of S).trans k), fun ok => absurd ok no, fun _ => wk (fun _ z => by rw [z]) rfl⟩)
/-! ### what passes the check has the shape -/
theorem seqChk_none {α : Type} {f : α → List Int → Sn → Option (List Int) × Sn} {pre : List Int} : ∀ {l : List α} {i : Nat} {st : Sn}, (seqChk f pre l i st).1 = none → ∀ x ∈ l, ∃ p st', (f x p st').1 = none
  | [], _, _, _, x, hx => by simp at hx
  | y :: ys, i, st, h, x, hx => by
    unfold seqChk at h
    cases e : f y (pre ++ [(i : Int)]) st with
    | mk o st' =>
      rw [e] at h
      cases o with
      | some p => simp at h
      | none =>
        rcases List.mem_cons.mp hx with rfl | hx
        · exact ⟨_, _, by rw [e]⟩
        · exact seqChk_none h x hx
theorem chk_shape (ed : Bool) (ka ks : List (Key × V)) : ∀ (d : Nat) (il : Bool) (rows : List (Row d)) (pre : List Int) (st : Sn), (chk ed ka ks d il rows pre st).1 = none → (∀ r ∈ rows, Pre d r) → ∀ r ∈ rows, Shape d r
  | 0, _, _, _, _, _, _, r, _ => nomatch r
  | d + 1, il, rows, pre, st, h, pr, r, hr => by
    obtain ⟨p, st', e⟩ := seqChk_none (f := oneChk ed ka ks (chk ed ka ks d) il) h r hr
    obtain ⟨hf, nice, l1, k1, kk⟩ := pr r hr
    unfold oneChk at e
    cases c1 : (hasForm ed ka ks r.1 (fsOf r.1) r.2 && mayS r.1 p.length il (kids r.2).length) with
    | false => rw [c1] at e; simp at e
    | true =>
      rw [c1] at e
      have hk := hasForm_kinds (by simp only [Bool.and_eq_true] at c1; exact c1.1)
      refine ⟨⟨_, hf, hk⟩, fun q hq => ?_, k1, fun l hl => ⟨(kk l hl).1, ?_⟩⟩
      · obtain ⟨i, hi⟩ := List.getElem?_of_mem hq
        obtain ⟨f, hfi, _⟩ := hk.other hi
        exact (nice (f, q) (List.mem_of_getElem? (i := i) (by rw [List.getElem?_zip_eq_some]; exact ⟨hfi, hi⟩))).2.1
      · rw [if_pos rfl] at e
        cases c3 : (isNew (fsOf r.1) r.2 st').1 with
        | false => rw [c3] at e; simp at e
        | true =>
          rw [c3, if_pos rfl] at e
          obtain ⟨p2, st2, e2⟩ := seqChk_none e l hl
          exact chk_shape ed ka ks d _ l p2 st2 e2 (kk l hl).2
theorem named_le {R : Type} (which : List Str) : ∀ (fs : List Str) (ps : List (Pt R)), (∀ p ∈ ps, (wordsP p).length ≤ 100) → (named which fs ps).length ≤ 100 * ps.length
  | [], ps, _ => by simp [named]
  | f :: fs, [], _ => by simp [named]
  | f :: fs, p :: ps, h => by
    have ih := named_le which fs ps fun q hq => h q (List.mem_cons_of_mem _ hq)
    have h1 := h p List.mem_cons_self
    have e : named which (f :: fs) (p :: ps) = (if f ∈ which then wordsP p else []) ++ named which fs ps := by unfold named; simp
    rw [e, List.length_append, List.length_cons]
    have h2 : (if f ∈ which then wordsP p else []).length ≤ 100 := by
      split
      · exact h1
      · simp
    omega
/-- what is told of a row within the flat list -/
def FlatOk (x : AnyRow) : Prop := (x.2.1, fsOf x.2.1) ∈ ftab ∧ KindsOk (fsOf x.2.1) x.2.2 ∧ ∀ which, (named which (fsOf x.2.1) x.2.2).length ≤ 1000
theorem flat_ok : ∀ (d : Nat) (r : Row d), Shape d r → ∀ x ∈ flatR d r, FlatOk x
  | 0, r, _, _, _ => nomatch r
  | d + 1, r, sh, x, hx => by
    have four := sh.parts
    obtain ⟨⟨fs, hf, hk⟩, wl, _, sk⟩ := sh
    have ef : fsOf r.1 = fs := fsOf_at _ hf
    rcases List.mem_cons.mp hx with rfl | hx
    · refine ⟨by show (r.1, fsOf r.1) ∈ ftab; rw [ef]; exact hf, by show KindsOk (fsOf r.1) r.2; rw [ef]; exact hk, fun which => ?_⟩
      have := named_le which (fsOf r.1) r.2 wl
      show (named which (fsOf r.1) r.2).length ≤ 1000
      omega
    · rw [List.mem_flatten] at hx
      obtain ⟨l, hl, hx⟩ := hx
      rw [List.mem_map] at hl
      obtain ⟨l', hl', rfl⟩ := hl
      rw [List.mem_flatten] at hx
      obtain ⟨l2, hl2, hx⟩ := hx
      rw [List.mem_map] at hl2
      obtain ⟨r', hr', rfl⟩ := hl2
      exact flat_ok d r' ((sk l' hl').2 r' hr') x hx
theorem flatL_ok {d : Nat} {rows : List (Row d)} (sh : ∀ r ∈ rows, Shape d r) : ∀ x ∈ flatL d rows, FlatOk x := fun x hx => by
  unfold flatL at hx
  rw [List.mem_flatten] at hx
  obtain ⟨l, hl, hx⟩ := hx
  rw [List.mem_map] at hl
  obtain ⟨r, hr, rfl⟩ := hl
  exact flat_ok d r (sh r hr) x hx
end OR

set_option Elab.async false
set_option maxRecDepth 100000
set_option maxHeartbeats 8000000
set_option linter.all false
namespace OR
open PySem PySem.Spec PyProof.Rows L2 TS2
def labelsN (d : Nat) (rows : List (Row d)) : Nat := (uniq (namesAll ["label", "labels"] (flatL d rows))).length
def slotsN (d : Nat) (rows : List (Row d)) : Nat := ((uniq (namesAll ["slot", "source"] (flatL d rows))).filter fun z : Str => decide (z ≠ "in")).length
def gatesN (d : Nat) (rows : List (Row d)) : Nat := (uniq (namesAll ["gate", "edit"] (flatL d rows))).length
/-- what a draft of these parts is refused with, if it is -/
def outcome (ed : Bool) (oa os : Option (List (Key × V))) (bi : Bool) (d : Nat) (orows : Option (List (Row d))) : Option (Str × List Int) :=
  match oa with
  | none => some ("asks", [])
  | some ka => match os with
    | none => some ("signals", [])
    | some ks => if bi then (match orows with
        | none => some ("rows", [])
        | some rows => match (chk ed ka ks d false rows [] ([], [])).1 with
          | some path => some ("rows", path)
          | none => (fault4 (lsz d rows) (labelsN d rows) (slotsN d rows) (gatesN d rows)).map fun part => (part, []))
      else some ("inputs", [])
inductive RowsArg (K : PySem.W.Frag) (H0 : Hp) (d : Nat) : V → Option (List (Row d)) → Prop
  | bad {v : V} (h : ∀ H', Same H0 H' → NotA K H' v "list") : RowsArg K H0 d v none
  | good {r : Addr} {xs : List V} {rows : List (Row d)} (h : H0 r = some (.lst xs)) (a : All2 (RowAt K H0 d) rows xs) (p : ∀ x ∈ rows, Pre d x) (lr : rows.length ≤ 1000) (few : lsz d rows ≤ 2900) (names : ∀ which, (namesAll which (flatL d rows)).length ≤ 4000) : RowsArg K H0 d (.ref r) (some rows)
def draftF (a s : Addr) (i : V) (l pl nt : Addr) : List (Str × V) := [("ask_table", .ref a), ("signal_table", .ref s), ("input_words", i), ("row_list", .ref l), ("plan", .ref pl), ("name_table", .ref nt)]
/-- the classes of drafts: their fields are told by no attribute -/
structure DCls (K : PySem.W.Frag) (C : Addr) : Prop where
  c : Cls K C
  n : ∀ f ∈ (["ask_table", "signal_table", "input_words", "row_list", "plan", "name_table"] : List Str), NoAttr K C f
def spDraft (K : PySem.W.Frag) (d : Nat) : Sp := fun vs H Q E => ∃ (p dx C : Addr) (vr va vg vi : V) (ed bi : Bool) (oa os : Option (List (Key × V))) (orows : Option (List (Row d))) (H0 : Hp), vs = [.ref p, vr, va, vg, vi, .bl ed] ∧ DCls K C ∧ H p = some (.ins C dx []) ∧ H0 p = none ∧ Same H0 H ∧ d ≤ 40 ∧
  TabArg K H0 "asks" 6 va oa ∧ TabArg K H0 "signals" 3 vg os ∧ (∀ H', Same H0 H' → WordsIs K H' 3 vi bi) ∧ RowsArg K H0 d vr orows ∧
  (∀ part path, outcome ed oa os bi d orows = some (part, path) → Refuses K (fun b => b = p ∨ va = .ref b ∨ vg = .ref b) H part path E) ∧
  (outcome ed oa os bi d orows = none → ∀ rows, orows = some rows → ∀ (H' Hn : Hp) (a s l pl nt fa dx2 : Addr) (F : List V) (more : List (Str × V)), Sv H H' p → H' p = some (.ins C dx (draftF a s vi l pl nt)) → H' pl = some (.ins (He.ga K "Plan") dx2 (("flat", .ref fa) :: more)) → H' fa = some (.lst F) →
    All2 (AnyAt K Hn) (flatL d rows) F → Same Hn H' → Hn p = none → (∀ x ∈ flatL d rows, FlatOk x) → pl ≠ p → fa ≠ p → Q .non H')
theorem words_alt {K : PySem.W.Frag} {H : Hp} {m : Int} {v : V} {b : Bool} (h : WordsIs K H m v b) : (∃ a ws, v = .ref a ∧ SqT K H a (ws.map V.str) ∧ (∀ z ∈ ws, z.length ≤ sizeLine) ∧ ws.length ≤ 1000 ∧ areW m ws = b) ∨ (NotA K H v "tuple" ∧ b = false) := by
  cases h with
  | tup h z few => exact .inl ⟨_, _, rfl, h, fun x hx => Nat.le_of_lt (small1000 (z x hx)), few, rfl⟩
  | no h => exact .inr ⟨h, rfl⟩
section
variable {P : Program} {w : World} {K : PySem.W.Frag} {mg : Str → Option Value} {base : Heap}
theorem ok_draft {k0 kc kd kp d : Nat} {f : Addr} {fd : FuncData} (F0 : FnP K "__init__" "Draft.__init__" s_Draft___init__ f fd) (T : Tx w K mg) (h5 : 5 ≤ k0) (hc : kc ≤ k0) (hd : kd ≤ k0) (hpk : kp + 1 ≤ k0)
    (E_InvalidProgram : ErrDef P w K mg base CX0 1 "InvalidProgram" (cIP K) ["self", "part", "path"] ["part", "path"]) (G_checked_table : Def P w K mg base (L2.CX P w) 4 "checked_table" p_checked_table (spTable K))
    (G_are_words : Def P w K mg base CX0 2 "are_words" p_are_words (spAreWords K)) (K_RowCheck : MkA P w K mg base CX0 1 "RowCheck" (He.ga K "RowCheck") [] p_RowCheck___init__ (spRCinit K))
    (M_check_rows : MDef P w K mg base (L2.CX P w) kc (He.ga K "RowCheck") "check_rows" p_RowCheck_check_rows (spCheckRows K d)) (G_copied : Def P w K mg base CX0 kd "copied" p_copied (spCopied K (d + 1)))
    (K_Plan : MkA P w K mg base CX0 kp "Plan" (He.ga K "Plan") [] p_Plan___init__ (spPlanInit K d)) (G_named_in : Def P w K mg base CX0 2 "named_in" p_named_in (spNamedIn K))
    (G_check_sizes : Def P w K mg base (L2.CX P w) 3 "check_sizes" p_check_sizes (spSizes K)) : FnOk P w K mg base (L2.CX P w) (k0 + 1) f fd p_Draft___init__ (spDraft K d) := by
  refine F0.ok sc_Draft___init__ (fun vs H Q E h => ?_) (fun cdv A outer s H vs Q E hr h => ?_)
  · obtain ⟨p, dx, C, vr, va, vg, vi, ed, _, _, _, _, _, rfl, _⟩ := h
    rfl
  · obtain ⟨p, dx, C, vr, va, vg, vi, ed, bi, oa, os, orows, H0, rfl, ⟨cc, cn⟩, hp, H0p, S0, fd, ta, tg, tw, rw_, ke, kq⟩ := h
    obtain ⟨t1, mMOST_ASKS⟩ := T.m_MOST_ASKS
    obtain ⟨t2, mMOST_SIGNALS⟩ := T.m_MOST_SIGNALS
    obtain ⟨t3, mMOST_INPUTS⟩ := T.m_MOST_INPUTS
    have sv0 : Sv H H p := fun b o hb _ => hb
    have base0 : ∀ {H' : Hp}, Sv H H' p → Same H0 H' := fun sv b o e => sv b o (S0 b o e) (fun z => by rw [z, H0p] at e; cases e)
    have rf : ∀ {Hc : Hp} {C2 : Addr → Prop} {part : Str} {path : List Int}, Sv H Hc p → Hc p ≠ none → (∀ b, C2 b → b = p ∨ va = .ref b ∨ vg = .ref b ∨ H b = none) → outcome ed oa os bi d orows = some (part, path) → Refuses K C2 Hc part path E := fun {Hc C2 part path} sv np hC e dd t H' k nd hd2 ht => by
      refine ke part path e dd t H' (fun b o hb nb => ?_) ?_ hd2 ht
      · refine k b o (sv b o hb (fun z => nb (.inl z))) (fun c => ?_)
        rcases hC b c with z | z | z | z
        · exact nb (.inl z)
        · exact nb (.inr (.inl z))
        · exact nb (.inr (.inr z))
        · rw [hb] at z; cases z
      · cases q : H dd with
        | none => rfl
        | some o =>
          by_cases z : dd = p
          · exact absurd (z ▸ nd) np
          · rw [sv dd o q z] at nd; cases nd
    refine ⟨_, (pss_cons (ps_fld (pv 0) (pe_fn G_checked_table (hr.mono (by omega)) (by rfl) (passes_call (W := fun c d _ H => E c d H) (takes_of rfl rfl rfl rfl) (fun _ _ _ _ h => h)) (pa_cons (pv 2) (pa_cons pe_str (pa_cons (pe_glob (by rfl) mMOST_ASKS (show RelV (.int (6)) _ from ⟨_, rfl⟩)) pa_nil)))) rfl)
      (pss_cons (ps_fld (pv 0) (pe_fn G_checked_table (hr.mono (by omega)) (by rfl) (passes_call (W := fun c d _ H => E c d H) (takes_of rfl rfl rfl rfl) (fun _ _ _ _ h => h)) (pa_cons (pv 3) (pa_cons pe_str (pa_cons (pe_glob (by rfl) mMOST_SIGNALS (show RelV (.int (3)) _ from ⟨_, rfl⟩)) pa_nil)))) rfl)
      (pss_cons (ps_if (pt_not (pt_val (pe_fn G_are_words (hr.mono (by omega)) (by rfl) pass0 (pa_cons (pv 4) (pa_cons (pe_glob (by rfl) mMOST_INPUTS (show RelV (.int (3)) _ from ⟨_, rfl⟩)) pa_nil))))) (pss_one (ps_raise rfl (takes_of rfl rfl rfl rfl) (pmk_errL E_InvalidProgram (hr.mono (by omega)) (by rfl) pass0 (pa_cons pe_str (pa_cons (pe_tup pa_nil) pa_nil))))) pss_nil)
      (pss_cons (ps_fld (pv 0) (pv 4) rfl)
      (pss_cons (ps_expr (pe_mth M_check_rows (hr.mono (by omega)) (passes_call (W := fun c d _ H => E c d H) (takes_of rfl rfl rfl rfl) (fun _ _ _ _ h => h)) (pe_mkA K_RowCheck (hr.mono (by omega)) (by rfl) pass0 (pa_cons (pe_fld (pv 0) rfl) (pa_cons (pe_fld (pv 0) rfl) (pa_cons (pv 5) pa_nil)))) (pa_cons (pv 1) pa_nil)))
      (pss_cons (ps_fld (pv 0) (pe_fn G_copied (hr.mono (by omega)) (by rfl) pass0 (pa_cons (pv 1) pa_nil)) rfl)
      (pss_cons (ps_fld (pv 0) (pe_mkA K_Plan (hr.mono (by omega)) (by rfl) pass0 (pa_cons (pe_fld (pv 0) rfl) pa_nil)) rfl)
      (pss_cons (ps_fld (pv 0) (pe_fn G_named_in (hr.mono (by omega)) (by rfl) pass0 (pa_cons (pe_fld (pe_fld (pv 0) rfl) rfl) pa_nil)) rfl)
      (pss_one (ps_expr (pe_fn G_check_sizes (hr.mono (by omega)) (by rfl) (passes_call (W := fun c d _ H => E c d H) (takes_of rfl rfl rfl rfl) (fun _ _ _ _ h => h)) (pa_cons (pe_fld (pv 0) rfl) (pa_cons (pe_fld (pv 0) rfl) pa_nil))))))))))))), ?_⟩
    -- asks
    refine ⟨_, rfl, ?_⟩
    dsimp only [tCons, tC, tNil, List.append_nil]
    refine tab_call ta S0 (fun ka eka H1 d1 S1 n1 hd1 => ?_) (fun e => rf sv0 (by rw [hp]; simp) (fun b z => .inr (.inl z)) (by rw [e]; rfl))
    subst eka
    have p1 : p ≠ d1 := ne_of_none hp n1
    refine ⟨_, rfl, p, _, dx, _, rfl, S1 _ _ hp, cc, cn _ (by simp), (by show 0 < 1000; decide), ?_⟩
    have sv1 := (sv0.same S1).own (u := .ins C dx (putF "ask_table" (.ref d1) []))
    have hp1 : upd H1 p (.ins C dx (putF "ask_table" (.ref d1) [])) p = some (.ins C dx [("ask_table", .ref d1)]) := upd_same
    have hd1' : upd H1 p (.ins C dx (putF "ask_table" (.ref d1) [])) d1 = some (.dK ka) := by rw [upd_ne p1.symm]; exact hd1
    have Hd1 : H d1 = none := n1
    generalize upd H1 p (.ins C dx (putF "ask_table" (.ref d1) [])) = G1 at sv1 hp1 hd1' ⊢
    -- signals
    refine ⟨_, rfl, ?_⟩
    dsimp only [tCons, tC, tNil, List.append_nil]
    refine tab_call tg (base0 sv1) (fun ks eks H2 d2 S2 n2 hd2 => ?_) (fun e => rf sv1 (by rw [hp1]; simp) (fun b z => .inr (.inr (.inl z))) (by rw [e]; rfl))
    subst eks
    have p2 : p ≠ d2 := ne_of_none hp1 n2
    have d12 : d1 ≠ d2 := ne_of_none hd1' n2
    refine ⟨_, rfl, p, _, dx, _, rfl, S2 _ _ hp1, cc, cn _ (by simp), (by show 1 < 1000; decide), ?_⟩
    have sv2 := (sv1.same S2).own (u := .ins C dx (putF "signal_table" (.ref d2) [("ask_table", .ref d1)]))
    have hp2 : upd H2 p (.ins C dx (putF "signal_table" (.ref d2) [("ask_table", .ref d1)])) p = some (.ins C dx [("ask_table", .ref d1), ("signal_table", .ref d2)]) := upd_same
    have hd2' : upd H2 p (.ins C dx (putF "signal_table" (.ref d2) [("ask_table", .ref d1)])) d2 = some (.dK ks) := by rw [upd_ne p2.symm]; exact hd2
    have hd12 : upd H2 p (.ins C dx (putF "signal_table" (.ref d2) [("ask_table", .ref d1)])) d1 = some (.dK ka) := by rw [upd_ne p1.symm]; exact S2 _ _ hd1'
    generalize upd H2 p (.ins C dx (putF "signal_table" (.ref d2) [("ask_table", .ref d1)])) = G2 at sv2 hp2 hd2' hd12 ⊢
    -- inputs
    refine ⟨_, rfl, vi, 3, rfl, ?_⟩
    rcases words_alt (tw _ (base0 sv2)) with ⟨wa, ws, ev, hw, zw, fw, eb⟩ | ⟨hnw, rfl⟩
    rotate_left
    · refine .inr ⟨hnw, _, rfl, ?_⟩
      refine iteT ?_
      refine ⟨by show 0 ≤ sizeLine; decide, fun t nt => ⟨rfl, ?_⟩⟩
      exact refused0 (C := fun _ => False) (path := []) (Kp.of (Same.new nt)) (fun d0 n => (Same.new nt).free n) (SqT.of upd_same) (rf sv2 (by rw [hp2]; simp) (fun b z => z.elim) rfl)
    refine .inl ⟨wa, ws, ev, hw, zw, fw, fun H3 S3 => ?_⟩
    rw [eb]
    have hp3 := S3 _ _ hp2
    have sv3 := sv2.same S3
    refine ⟨_, rfl, ?_⟩
    cases bi with
    | false =>
      refine iteT ?_
      refine ⟨by show 0 ≤ sizeLine; decide, fun t nt => ⟨rfl, ?_⟩⟩
      exact refused0 (C := fun _ => False) (path := []) (Kp.of (Same.new nt)) (fun d0 n => (Same.new nt).free n) (SqT.of upd_same) (rf sv3 (by rw [hp3]; simp) (fun b z => z.elim) rfl)
    | true =>
    refine iteF ?_
    refine ⟨_, rfl, _, rfl, p, _, dx, _, rfl, hp3, cc, cn _ (by simp), (by show 2 < 1000; decide), ?_⟩
    have sv4 := sv3.own (u := .ins C dx (putF "input_words" vi [("ask_table", .ref d1), ("signal_table", .ref d2)]))
    have hp4 : upd H3 p (.ins C dx (putF "input_words" vi [("ask_table", .ref d1), ("signal_table", .ref d2)])) p = some (.ins C dx [("ask_table", .ref d1), ("signal_table", .ref d2), ("input_words", vi)]) := upd_same
    have hd14 : upd H3 p (.ins C dx (putF "input_words" vi [("ask_table", .ref d1), ("signal_table", .ref d2)])) d1 = some (.dK ka) := by rw [upd_ne p1.symm]; exact S3 _ _ hd12
    have hd24 : upd H3 p (.ins C dx (putF "input_words" vi [("ask_table", .ref d1), ("signal_table", .ref d2)])) d2 = some (.dK ks) := by rw [upd_ne p2.symm]; exact S3 _ _ hd2'
    generalize upd H3 p (.ins C dx (putF "input_words" vi [("ask_table", .ref d1), ("signal_table", .ref d2)])) = G4 at sv4 hp4 hd14 hd24 ⊢
    have fresh : ∀ {b : Addr}, G4 b = none → H b = none := fun {b} n => by
      cases q : H b with
      | none => rfl
      | some o =>
        by_cases z : b = p
        · rw [z, hp4] at n; cases n
        · rw [sv4 b o q z] at n; cases n
    -- the rows are checked
    refine ⟨_, rfl, p, _, dx, _, .ref d1, rfl, hp4, cc, cn _ (by simp), rfl, _, rfl, p, _, dx, _, .ref d2, rfl, hp4, cc, cn _ (by simp), rfl, _, rfl, fun x y nx ny nxy => ?_⟩
    have SX : Same G4 (upd (upd G4 y (.own x)) x (.ins (He.ga K "RowCheck") y [])) := by
      intro b o hb
      rw [upd_ne (ne_of_none hb nx), upd_ne (ne_of_none hb ny)]
      exact hb
    refine ⟨x, y, d1, d2, ed, rfl, upd_same, fun G5 e g k5 hx5 he5 hg5 eg5 ne5 ng5 => ⟨rfl, ?_⟩⟩
    have xG : ∀ {b : Addr} {o : HO}, G4 b = some o → b ≠ x := fun h => ne_of_none h nx
    have S5 : Same G4 G5 := fun b o hb => k5 b o (SX b o hb) (xG hb)
    have gfree : ∀ {b : Addr}, (upd (upd G4 y (.own x)) x (.ins (He.ga K "RowCheck") y [])) b = none → G4 b = none := fun n => SX.free n
    have ne4 := gfree ne5
    have ng4 := gfree ng5
    have rc5 : RC K G5 x ed ka ks ([], []) d1 d2 e g y := ⟨hx5, S5 _ _ hd14, S5 _ _ hd24, he5, hg5, eg5, ne_of_none hd14 ne4, ne_of_none hd14 ng4, ne_of_none hd24 ne4, ne_of_none hd24 ng4⟩
    have S05 : Same H0 G5 := (base0 sv4).trans S5
    have H0e : H0 e = none := (base0 sv4).free ne4
    have H0g : H0 g = none := (base0 sv4).free ng4
    have hp5 := S5 _ _ hp4
    refine ⟨x, y, _, rfl, hx5, rfl, _, rfl, ?_⟩
    refine ⟨x, vr, ed, ka, ks, ([], []), d1, d2, e, g, y, rfl, rc5, ?_⟩
    have rfe : ∀ {part : Str} {path : List Int}, outcome ed (some ka) (some ks) true d orows = some (part, path) → Refuses K (fun b => b = e ∨ b = g) G5 part path E := fun h => rf (sv4.same S5) (by rw [hp5]; simp) (fun b z => by
      rcases z with z | z
      · rw [z]; exact .inr (.inr (.inr (fresh ne4)))
      · rw [z]; exact .inr (.inr (.inr (fresh ng4)))) h
    cases rw_ with
    | bad h => exact .inl ⟨h _ S05, rfe rfl⟩
    | good hr0 ha0 prr lr few names =>
    rename_i r xs rows
    have eout : outcome ed (some ka) (some ks) true d (some rows) = (match (chk ed ka ks d false rows [] ([], [])).1 with
          | some path => some ("rows", path)
          | none => (fault4 (lsz d rows) (labelsN d rows) (slotsN d rows) (gatesN d rows)).map fun part => (part, [])) := rfl
    refine .inr ⟨r, H0, rows, xs, rfl, hr0, S05, H0e, H0g, ha0, prr, fd, by show 0 + lsz d rows ≤ 3000; omega, fun hn H6 k6 rc6 => ?_, fun path hpth => rfe (by rw [eout, hpth])⟩
    rw [hn] at eout
    have shape := chk_shape ed ka ks d false rows [] ([], []) hn prr
    have S46 : Same G4 H6 := fun b o hb => k6 b o (S5 _ _ hb) (by
      rintro (z | z)
      · rw [z, ne4] at hb; cases hb
      · rw [z, ng4] at hb; cases hb)
    have sv6 := sv4.same S46
    have hp6 := S46 _ _ hp4
    have S06 := base0 sv6
    -- copied
    refine ⟨_, rfl, r, H0, rows, xs, rfl, hr0, S06, ha0, lr, shape, fun H7 l1 ys S7 m1 hl1 hys => ?_⟩
    have q1 : p ≠ l1 := ne_of_none hp6 m1
    have hp7' := S7 _ _ hp6
    refine ⟨_, rfl, p, _, dx, _, rfl, hp7', cc, cn _ (by simp), (by show 3 < 1000; decide), ?_⟩
    have HnS : ∀ {b : Addr} {o : HO}, res (Nw H0 H6) H7 b = some o → H7 b = some o ∧ b ≠ p := fun {b o} h => by
      obtain ⟨c, e⟩ := res_some h
      refine ⟨e, fun z => ?_⟩
      subst z
      rcases c with c | c
      · exact c H0p
      · rw [hp6] at c; cases c
    have Hnp : res (Nw H0 H6) H7 p = none := by
      cases q : res (Nw H0 H6) H7 p with
      | none => rfl
      | some o => exact absurd rfl (HnS q).2
    have sv7 := (sv6.same S7).own (u := .ins C dx (putF "row_list" (.ref l1) [("ask_table", .ref d1), ("signal_table", .ref d2), ("input_words", vi)]))
    have hp7 : upd H7 p (.ins C dx (putF "row_list" (.ref l1) [("ask_table", .ref d1), ("signal_table", .ref d2), ("input_words", vi)])) p = some (.ins C dx [("ask_table", .ref d1), ("signal_table", .ref d2), ("input_words", vi), ("row_list", .ref l1)]) := upd_same
    have Sn7 : Same (res (Nw H0 H6) H7) (upd H7 p (.ins C dx (putF "row_list" (.ref l1) [("ask_table", .ref d1), ("signal_table", .ref d2), ("input_words", vi)]))) := fun b o h => by rw [upd_ne (HnS h).2]; exact (HnS h).1
    have Hnl : res (Nw H0 H6) H7 l1 = some (.lst ys) := by rw [res_of (S := Nw H0 H6) (.inr m1)]; exact hl1
    generalize res (Nw H0 H6) H7 = Hn at HnS Hnp Sn7 Hnl hys
    generalize upd H7 p (.ins C dx (putF "row_list" (.ref l1) [("ask_table", .ref d1), ("signal_table", .ref d2), ("input_words", vi)])) = G7 at sv7 hp7 Sn7 ⊢
    -- the plan
    refine ⟨_, rfl, p, _, dx, _, .ref l1, rfl, hp7, cc, cn _ (by simp), rfl, fun x2 y2 nx2 ny2 nxy2 => ?_⟩
    have SX2 : Same G7 (upd (upd G7 y2 (.own x2)) x2 (.ins (He.ga K "Plan") y2 [])) := by
      intro b o hb
      rw [upd_ne (ne_of_none hb nx2), upd_ne (ne_of_none hb ny2)]
      exact hb
    refine ⟨x2, y2, l1, Hn, rows, ys, rfl, upd_same, Sn7.free nx2, Hnl, hys, Sn7.trans SX2, shape, fd, by omega, fun G8 fa F more sv8 hx8 hf8 fx al => ⟨rfl, ?_⟩⟩
    have S8 : Same G7 G8 := fun b o hb => sv8 b o (SX2 b o hb) (ne_of_none hb nx2)
    have hp8 := S8 _ _ hp7
    refine ⟨_, rfl, p, _, dx, _, rfl, hp8, cc, cn _ (by simp), (by show 4 < 1000; decide), ?_⟩
    have xp : x2 ≠ p := (ne_of_none hp7 nx2).symm
    have fp : fa ≠ p := ne_of hf8 hp8 (by intro z; cases z)
    have sv9 := (sv7.same S8).own (u := .ins C dx (putF "plan" (.ref x2) [("ask_table", .ref d1), ("signal_table", .ref d2), ("input_words", vi), ("row_list", .ref l1)]))
    have hp9 : upd G8 p (.ins C dx (putF "plan" (.ref x2) [("ask_table", .ref d1), ("signal_table", .ref d2), ("input_words", vi), ("row_list", .ref l1)])) p = some (.ins C dx [("ask_table", .ref d1), ("signal_table", .ref d2), ("input_words", vi), ("row_list", .ref l1), ("plan", .ref x2)]) := upd_same
    have other9 : ∀ {b : Addr} {o : HO}, G8 b = some o → b ≠ p → upd G8 p (.ins C dx (putF "plan" (.ref x2) [("ask_table", .ref d1), ("signal_table", .ref d2), ("input_words", vi), ("row_list", .ref l1)])) b = some o := fun h n => by rw [upd_ne n]; exact h
    have hx9 := other9 hx8 xp
    have hf9 := other9 hf8 fp
    have Sn9 : Same Hn (upd G8 p (.ins C dx (putF "plan" (.ref x2) [("ask_table", .ref d1), ("signal_table", .ref d2), ("input_words", vi), ("row_list", .ref l1)]))) := fun b o h => other9 (S8 _ _ (Sn7 _ _ h)) (fun z => by rw [z, Hnp] at h; cases h)
    generalize upd G8 p (.ins C dx (putF "plan" (.ref x2) [("ask_table", .ref d1), ("signal_table", .ref d2), ("input_words", vi), ("row_list", .ref l1)])) = G9 at sv9 hp9 hx9 hf9 Sn9 ⊢
    -- the names
    have fok := flatL_ok shape
    refine ⟨_, rfl, p, _, dx, _, .ref x2, rfl, hp9, cc, cn _ (by simp), rfl, x2, _, y2, _, .ref fa, rfl, hx9, T.c_Plan, T.n_Plan_flat, rfl, fa, F, Hn, flatL d rows, rfl, hf9, al, Sn9, fok, names, fun GA nt na nb nc ls ss gs SA hnt nt0 hna hnb hnc pm1 pm2 pm3 => ?_⟩
    have hpA := SA _ _ hp9
    refine ⟨_, rfl, p, _, dx, _, rfl, hpA, cc, cn _ (by simp), (by show 5 < 1000; decide), ?_⟩
    have svB := (sv9.same SA).own (u := .ins C dx (putF "name_table" (.ref nt) [("ask_table", .ref d1), ("signal_table", .ref d2), ("input_words", vi), ("row_list", .ref l1), ("plan", .ref x2)]))
    have hpB : upd GA p (.ins C dx (putF "name_table" (.ref nt) [("ask_table", .ref d1), ("signal_table", .ref d2), ("input_words", vi), ("row_list", .ref l1), ("plan", .ref x2)])) p = some (.ins C dx (draftF d1 d2 vi l1 x2 nt)) := upd_same
    have other : ∀ {b : Addr} {o : HO}, GA b = some o → b ≠ p → upd GA p (.ins C dx (putF "name_table" (.ref nt) [("ask_table", .ref d1), ("signal_table", .ref d2), ("input_words", vi), ("row_list", .ref l1), ("plan", .ref x2)])) b = some o := fun h n => by rw [upd_ne n]; exact h
    have ln : ∀ {b : Addr} {zs : List V}, GA b = some (.lst zs) → b ≠ p := fun h => ne_of h hpA (by intro z; cases z)
    have hxB := other (SA _ _ hx9) xp
    have hfB := other (SA _ _ hf9) fp
    have hntB := other hnt (ne_of hnt hpA (by intro z; cases z))
    have hnaB := other hna (ln hna)
    have hnbB := other hnb (ln hnb)
    have hncB := other hnc (ln hnc)
    have SnB : Same Hn (upd GA p (.ins C dx (putF "name_table" (.ref nt) [("ask_table", .ref d1), ("signal_table", .ref d2), ("input_words", vi), ("row_list", .ref l1), ("plan", .ref x2)]))) := fun b o h => other (SA _ _ (Sn9 _ _ h)) (fun z => by rw [z, Hnp] at h; cases h)
    generalize upd GA p (.ins C dx (putF "name_table" (.ref nt) [("ask_table", .ref d1), ("signal_table", .ref d2), ("input_words", vi), ("row_list", .ref l1), ("plan", .ref x2)])) = GB at svB hpB hxB hfB hntB hnaB hnbB hncB SnB ⊢
    have e1 : F.length = lsz d rows := by rw [← flatL_len]; exact al.len.symm
    have e2 : (ls.map V.str).length = labelsN d rows := by rw [List.length_map, pm1.length_eq]; rfl
    have e3 : ((ss.filter fun z : Str => decide (z ≠ "in")).map V.str).length = slotsN d rows := by rw [List.length_map, (pm2.filter _).length_eq]; rfl
    have e4 : (gs.map V.str).length = gatesN d rows := by rw [List.length_map, pm3.length_eq]; rfl
    refine ⟨_, rfl, p, _, dx, _, .ref x2, rfl, hpB, cc, cn _ (by simp), rfl, _, rfl, p, _, dx, _, .ref nt, rfl, hpB, cc, cn _ (by simp), rfl, ?_⟩
    refine ⟨x2, y2, nt, fa, na, nb, nc, F, _, _, _, more, rfl, hxB, hfB, hntB, hnaB, hnbB, hncB, fun fn => ?_, fun part fpt => ?_⟩
    · rw [e1, e2, e3, e4] at fn
      exact kq (by rw [eout, fn]; rfl) rows rfl GB Hn d1 d2 l1 x2 nt fa y2 F more svB hpB hxB hfB al SnB Hnp fok xp fp
    · rw [e1, e2, e3, e4] at fpt
      exact rf svB (by rw [hpB]; simp) (fun b z => z.elim) (by rw [eout, fpt]; rfl)
end
end OR

set_option Elab.async false
set_option maxRecDepth 100000
set_option maxHeartbeats 8000000
set_option linter.all false
namespace L2
open PySem PySem.Spec PyProof.Rows
section
variable {X : Cx} {CX : CXT} {k n : Nat} {f C : Addr} {fd : FuncData} {ps ks : List Str} {sp : Sp} {E : St → XK} {x : Str} {p pos : Pos} {e : Expr} {es : List Expr} {kws : List Keyword} {t tk : TA} {g : List Value → List Value → List Value} {gV : List V → List V → List V}
/-- C(e, .., k = v, ..) that may raise: the caller's wish at its slots -/
def tMakeKS (C : Addr) (n m : Nat) (sp : Sp) (gV : List V → List V → List V) (E : St → XK) (t tk : TA) : TE := fun σ H Q => t σ H fun vs H1 => tk σ H1 fun zs H2 => vs.length = n ∧ zs.length = m ∧ ∀ x dx, H2 x = none → H2 dx = none → dx ≠ x →
  sp (gV (.ref x :: vs) zs) (upd (upd H2 dx (.own x)) x (.ins C dx [])) (fun v H3 => v = .non ∧ Q (.ref x) H3) (E σ)
theorem pe_makeKS (M : Mk X.K C f) (F : FnOk X.prog X.w X.K X.mg X.base CX k f fd ps sp) (hr : Room (k + 1) X.A) (hg : Gl X x) (hm : X.mg x = some (.ref C)) (hb : KBn X.K fd ps (n + 1) ks g gV) (hx : ∀ σ, PassesAt CX X σ (E σ)) (ha : PA X (e :: es) t) (hkw : PK X kws tk)
    (hall : (backToKw pos (keywordEach kws X.env)).all (·.1.isSome) = true := by rfl) (hks : (backToKw pos (keywordEach kws X.env)).filterMap (·.1) = ks := by rfl) (hdb : (x == ("__debug__" : Str)) = false := by decide)
    (he : starEach (e :: es) X.env = (false, eval e X.env) :: starEach es X.env := by rfl) (hpl : ((backTo pos (starEach (e :: es) X.env)).any (·.1) || (backToKw pos (keywordEach kws X.env)).any (·.1.isNone)) = false := by rfl) :
    PE X (.Call (.Name x p) (e :: es) kws pos) (tMakeKS C n ks.length sp gV E t tk) := by
  refine ⟨fun pins s σ H Q I h => ?_⟩
  refine wpAny_Call_Name_kw (ld_glob I hg hm ?_ hdb)
  refine PySem.W.callWith_KW (h₀ := X.base) I.ok.mod.kin M.kp hall (thn (ha.run pos pins s σ H _ I h) fun us s1 ⟨vs, H1, I1, r, q⟩ => ?_) hpl he
  refine thn (hkw.run pos pins s1 σ H1 _ I1 q) fun ws s2 ⟨zs, H2, I2, rz, l1, l2, q2⟩ => ⟨I2.kIn, ?_⟩
  rw [hks]
  have hq := q2 (s2.heap.objs.size + 1) s2.heap.objs.size (I2.hok.fresh (Nat.le_succ _)) (I2.hok.fresh (Nat.le_refl _)) (Nat.ne_of_lt (Nat.lt_succ_self _))
  have I3 := Inv.made (C := C) I2
  have r1 : Vals (V.ref (s2.heap.objs.size + 1) :: vs) (Value.ref (s2.heap.objs.size + 1) :: us) := .cons rfl r
  have r2 := hb.rel r1 rz
  have n1 : (Value.ref (s2.heap.objs.size + 1) :: us).length = n + 1 := by rw [List.length_cons, ← r.length, l1]
  refine wpAny_call (make_map (f := f) I2.kIn M.makes M.init (beq_iff_eq.mp M.fn) (codeAny_mono (F.run _ X.stack _ _ ⟨Value.ref (s2.heap.objs.size + 1) :: us, ks.zip ws⟩ (g (Value.ref (s2.heap.objs.size + 1) :: us) ws) _ _ (E σ) (hr.make C us (ks.zip ws))
    (I3.env0.make C us (ks.zip ws)) (hb.to _ (Value.ref (s2.heap.objs.size + 1) :: us) ws I3.kIn n1 (rz.length.symm.trans l2)) r2 hq) fun r s' hq' => ?_))
  cases r with
  | error er => exact hx σ pins _ _ er s' I3 hq'
  | ok fl =>
    cases fl with
    | ret u =>
      obtain ⟨v, H', I4, rv, ev, q3⟩ := I3.after hq'
      subst ev
      exact ⟨rv, ⟨V.ref (s2.heap.objs.size + 1), H', I4, rfl, q3⟩⟩
    | next => exact False.elim hq'
    | brk => exact False.elim hq'
    | cont => exact False.elim hq'
end
end L2
namespace OR
open PySem PySem.Spec PyProof.Rows L2 TS2
structure DArgs (K : PySem.W.Frag) (H0 : Hp) (d : Nat) (vr va vg vi : V) (oa os : Option (List (Key × V))) (bi : Bool) (orows : Option (List (Row d))) : Prop where
  a : TabArg K H0 "asks" 6 va oa
  s : TabArg K H0 "signals" 3 vg os
  i : ∀ H', Same H0 H' → WordsIs K H' 3 vi bi
  r : RowsArg K H0 d vr orows
def spProgInit (K : PySem.W.Frag) (d : Nat) : Sp := fun vs H Q E => ∃ (p dx : Addr) (vr va vg vi : V) (bi : Bool) (oa os : Option (List (Key × V))) (orows : Option (List (Row d))) (H0 : Hp), vs = [.ref p, vr, va, vg, vi] ∧ H p = some (.ins (He.ga K "Program") dx []) ∧ H0 p = none ∧ Same H0 H ∧ d ≤ 40 ∧ DArgs K H0 d vr va vg vi oa os bi orows ∧
  (∀ part path, outcome false oa os bi d orows = some (part, path) → Refuses K (fun b => b = p ∨ va = .ref b ∨ vg = .ref b) H part path E) ∧ (outcome false oa os bi d orows = none → ∀ (H' : Hp) (fs : List (Str × V)), Sv H H' p → H' p = some (.ins (He.ga K "Program") dx fs) → Q .non H')
section
variable {P : Program} {w : World} {K : PySem.W.Frag} {mg : Str → Option Value} {base : Heap}
theorem ok_program {k0 d : Nat} {f : Addr} {fd : FuncData} {kws : List (Str × V)} (F : FunD K "__init__" "Program.__init__" (defArgs s_Program___init__) (defBody s_Program___init__) (defScope s_Program___init__) [] kws f fd) (T : Tx w K mg) (dc : DCls K (He.ga K "Program"))
    (C_Draft : CFun P w K mg base (L2.CX P w) k0 "Draft" (He.ga K "Draft") "__init__" p_Draft___init__ (spDraft K d)) : FnOk P w K mg base (L2.CX P w) (k0 + 1) f fd p_Program___init__ (spProgInit K d) := by
  refine F.ok sc_Program___init__ (fun vs H Q E h => ?_) (fun cdv A outer s H vs Q E hr h => ?_)
  · obtain ⟨p, dx, vr, va, vg, vi, _, _, _, _, _, rfl, _⟩ := h
    rfl
  · obtain ⟨p, dx, vr, va, vg, vi, bi, oa, os, orows, H0, rfl, hp, H0p, S0, fd', ar, ke, kq⟩ := h
    refine ⟨_, (pss_one (ps_expr (pe_cfun C_Draft (hr.mono (by omega)) (by rfl) (passes_call (W := fun c d _ H => E c d H) (takes_of rfl rfl rfl rfl) (fun _ _ _ _ h => h)) (pa_cons (pv 0) (pa_cons (pv 1) (pa_cons (pv 2) (pa_cons (pv 3) (pa_cons (pv 4) (pa_cons pe_bl pa_nil))))))))), ?_⟩
    exact ⟨_, rfl, _, rfl, _, rfl, _, rfl, _, rfl, p, dx, _, vr, va, vg, vi, false, bi, oa, os, orows, H0, rfl, dc, hp, H0p, S0, fd', ar.a, ar.s, ar.i, ar.r, ke, fun e rows _ H' Hn a s l pl nt fa dx2 F more sv hp' _ _ _ _ _ _ _ _ => kq e H' _ sv hp'⟩
end
end OR

set_option Elab.async false
set_option maxRecDepth 100000
set_option maxHeartbeats 4000000
set_option linter.all false
/-! words of our own: several clauses that name the error; a text times a number -/
namespace L2
open PySem PySem.Spec PyProof.Rows
/-- the ends of a clause: slot j is empty again behind it -/
def dropAt (j : Nat) (D : Ends) : Ends where
  nx := fun τ G => D.nx (τ.set j none) G
  rt := D.rt
  bk := fun τ G => D.bk (τ.set j none) G
  ct := fun τ G => D.ct (τ.set j none) G
abbrev Cl : Type := Value × (Addr → Value → Option Addr → TS)
/-- what the clauses wish of an error, the first first -/
def wEach (K : PySem.W.Frag) (j : Nat) (Wo : WX) (D : Ends) : List Cl → WX
  | [] => Wo
  | (c, ts) :: more => fun k dd τ G => ∃ b, PySem.W.exmOne K k c = some b ∧
      (b = true → ∀ p, G p = none → ts p k dd (dropAt j D) (τ.set j (some (.ref p))) G) ∧ (b = false → wEach K j Wo D more k dd τ G)
inductive Clauses (X : Cx) (j : Nat) (n : Str) : List ExceptHandler → List Cl → Prop
  | nil : Clauses X j n [] []
  | cons {x : Str} {c : Value} {ts : Addr → Value → Option Addr → TS} {s0 : Stmt} {ss : List Stmt} {np hp : Pos} {hs : List ExceptHandler} {l : List Cl} (nm : Names X x c)
      (su : ∀ (p : Addr) (o : Obj) (k : Value) (dd : Option Addr) (pn : List (Addr × Obj)), Zc k dd o →
        (∃ fs, o.data = .fields fs) → PSs (X.suite p ((p, o) :: pn)) (s0 :: ss) (ts p k dd))
      (r : Clauses X j n hs l) : Clauses X j n (.ExceptHandler (some (.Name x np)) (some n) (s0 :: ss) hp :: hs) ((c, ts) :: l)
section
variable {X : Cx} {n : Str} {j : Nat} {body : List Stmt} {h0 : ExceptHandler} {hs : List ExceptHandler} {l : List Cl} {pos : Pos} {tb : WX → TS} {Wo : WX}
theorem ps_try_each (e1 : X.stack = X.env :: X.outer) (e2 : X.env.frame = some X.env.locals) (nd : X.N.Nodup) (at_ : X.N[j]? = some n) (loc : X.env.kindOf n = some .local) (tk : Takes X Wo)
    (hb : ∀ (W : WX) (pn : List (Addr × Obj)) (xe : Value → Shared → Prop), Takes (X.tr pn xe) W →
      PassesOwn (model X.prog X.w) X.A X.env xe → PSs (X.tr pn xe) body (tb W))
    (cl : Clauses X j n (h0 :: hs) l) : PS X (.Try body (h0 :: hs) [] [] pos) (fun D τ G => tb (wEach X.K j Wo D l) D τ G) := by
  refine ⟨fun qs s τ G D I w => ?_⟩
  have fine := I.ok
  have fr : X.A.frames = some (X.env :: X.outer) := by rw [fine.frames, e1]
  have lc : Loc X.env.scope n := .inl loc
  refine wpAny_Try_except ?_
  refine wpAny_mono ((hb (wEach X.K j Wo D l) (X.pn ++ qs) (fun er t1 => wpAny (model X.prog X.w) X.A (noteFrame er X.env)
      (fun _ t2 => wpAny (model X.prog X.w) X.A (setFlight er none)
        (fun _ t3 => wpAny (model X.prog X.w) X.A (handleBy er X.env (h0 :: hs)) (SP X qs D) X.xe t3) X.xe t2) X.xe t1)
      (fun u s2 y => ?_) PassesOwn.looking).run [] s τ G D (I.toTry _) w) (fun f t1 y => ?_) (fun er t1 y => y)
  · obtain ⟨p, B, sJ, qs2, τ2, G2, k, dd, rfl, I2, nb, up, sk, fre, os, ag, wish⟩ := y
    have J := I2.ofTry fine
    have sk2 : Sky B (X.env :: X.outer) p (Zc k dd) X.env.locals s2.heap := by rw [← e1]; exact sk
    show wpAny _ X.A (noteFrame (.ref p) X.env) _ _ _
    refine Sky.land Zc.steady fr e2 sk2 fun hp3 fl up3 => ?_
    have J3 : Inv X qs τ2 G2 { s2 with heap := hp3 } := J.landed nb fl.1 (up.trans up3) os ag
    obtain ⟨o3, fs3, g3, z3, d3⟩ := fl.there
    have apart : p ∉ frs (X.env :: X.outer) := fun m => by
      obtain ⟨_, o4, g4, q⟩ := fl.2.2.1.mem m
      rw [g3] at g4
      cases g4
      exact q _ d3
    have pL : p ≠ X.env.locals := fun z => apart (List.mem_filterMap.mpr ⟨X.env, List.mem_cons_self, by rw [e2, z]⟩)
    have pF : p ∉ X.fs := fun m => by
      obtain ⟨e, he, q⟩ := List.mem_filterMap.mp m
      exact apart (List.mem_filterMap.mpr ⟨e, List.mem_cons_of_mem _ he, q⟩)
    have I3 := J3.suite g3 d3 fre pL pF
    have all : ∀ {hs' : List ExceptHandler} {l' : List Cl}, Clauses X j n hs' l' → wEach X.K j Wo D l' k dd τ2 G2 →
        wpAny (model X.prog X.w) X.A (handleBy (.ref p) X.env hs') (SP X qs D) X.xe { s2 with heap := hp3 } := by
      intro hs' l' c
      induction c with
      | nil =>
        intro wsh
        refine wpAny_handleBy_nil ?_
        obtain ⟨k1, k2, k3, oe, vs, T, oT, ts', he, hz, hd, f1, hr⟩ := id fl
        unfold PySem.passOn
        refine wpAny_bind (wpAny_field he hd f1 ?_)
        rw [if_neg (by simp)]
        have out : wpAny (model X.prog X.w) X.A (setFlight (.ref p) X.env.frame)
            (fun _ t4 => wpAny (model X.prog X.w) X.A (throw (.ref p) : Sem Flow) (SP X qs D) X.xe t4) X.xe { s2 with heap := hp3 } := by
          rw [e2]
          refine HandSPX.setFlight_upZ fl fun h4 y4 up4 => wpAny_throw (tk _ _ ?_)
          exact ⟨p, B, sJ, qs, τ2, G2, k, dd, rfl, J, nb, (up.trans up3).trans up4, .inr (.inr (by rw [e1]; exact y4)), fre, os, ag, wsh⟩
        first
          | exact wpAny_bind (wpAny_pure (wpAny_bind out))
          | exact wpAny_bind out
      | @cons x c ts s0 ss np hp' hs2 l2 nm su r ih =>
        intro wsh
        obtain ⟨b, b1, by1, bn⟩ := wsh
        refine wpAny_handleBy_cons (codeAny_handlers_test ?_) (by intro q; cases q)
        have LT : PySem.W.Looks (model X.prog X.w) hp3 (typeOf (.ref p)) k := fun A Q E s kk q => wpAny_typeOf_ref (kk _ _ g3) (by rw [z3.1]; exact q)
        have LM := PySem.W.exm_one (M := model X.prog X.w) J3.kIn LT b1
        have look : ∀ {Q E : Value → Shared → Prop}, Q c { s2 with heap := hp3 } →
            wpAny (model X.prog X.w) (X.A.mark (some (.ref p))) (eval (.Name x np) X.env) Q E { s2 with heap := hp3 } := fun {Q E} q => by
          obtain ⟨gl, dbg, m | ⟨m, bb, nn⟩⟩ := nm
          · exact ld_glob (X := X.suite p ((p, o3) :: (X.pn ++ qs))) I3 gl m q dbg
          · exact ld_blt (X := X.suite p ((p, o3) :: (X.pn ++ qs))) I3 gl m bb q nn dbg
        refine look (LM.here ?_)
        cases b with
        | false =>
          show wpAny _ X.A (handleBy (.ref p) X.env hs2) _ _ _
          exact ih (bn rfl)
        | true =>
          refine codeAny_handlers_suite_as ?_
          refine HandSPX.lands_againZ fl fun hp4 fl4 up4 => ?_
          have J4 : Inv X qs τ2 G2 { s2 with heap := hp4 } := J.landed nb fl4.1 ((up.trans up3).trans up4) os ag
          obtain ⟨o4, fs4, g4, z4, d4⟩ := fl4.there
          have I4 := J4.suite g4 d4 fre pL pF
          refine store_ok (X := X.suite p ((p, o4) :: (X.pn ++ qs))) (v := .ref p) I4 nd at_ lc rfl (fun s5 I5 => ?_) (.inr loc)
          refine wpAny_mono ((su p o4 k dd (X.pn ++ qs) z4 ⟨_, d4⟩).run [] s5 _ G2 _ I5 (by1 rfl p fre)) (fun f s6 y6 => ?_) (fun _ _ z => False.elim z)
          have done : ∀ {τ6 : St} {G6 : Hp} {Q : Shared → Prop}, Inv (X.suite p ((p, o4) :: (X.pn ++ qs))) [] τ6 G6 s6 →
              (∀ s7, Inv X qs (τ6.set j none) G6 s7 → Q s7) →
              wpAny (model X.prog X.w) X.A (do bindName X.env n .none; unbindBehindTheSuite X.env n hp') (fun _ s7 => Q s7) X.xe s6 :=
            fun {τ6 G6 Q} I6 q => gone_ok (I6.unsuite fine) nd at_ loc q
          cases f with
          | ret u =>
            obtain ⟨v6, τ6, G6, I6, r6, q6⟩ := y6
            exact done I6 fun s7 J7 => ⟨_, _, _, J7, r6, q6⟩
          | next =>
            obtain ⟨τ6, G6, I6, q6⟩ := y6
            exact done I6 fun s7 J7 => ⟨_, _, J7, q6⟩
          | brk =>
            obtain ⟨τ6, G6, I6, q6⟩ := y6
            exact done I6 fun s7 J7 => ⟨_, _, J7, q6⟩
          | cont =>
            obtain ⟨τ6, G6, I6, q6⟩ := y6
            exact done I6 fun s7 J7 => ⟨_, _, J7, q6⟩
    exact all cl wish
  · cases f with
    | ret u =>
      obtain ⟨v, τ2, G2, I2, r, q⟩ := y
      exact ⟨v, τ2, G2, I2.ofTry fine, r, q⟩
    | next =>
      obtain ⟨τ2, G2, I2, q⟩ := y
      exact wpAny_execs_nil ⟨τ2, G2, I2.ofTry fine, q⟩
    | brk =>
      obtain ⟨τ2, G2, I2, q⟩ := y
      exact ⟨τ2, G2, I2.ofTry fine, q⟩
    | cont =>
      obtain ⟨τ2, G2, I2, q⟩ := y
      exact ⟨τ2, G2, I2.ofTry fine, q⟩
end
end L2

set_option Elab.async false
set_option maxRecDepth 100000
set_option maxHeartbeats 4000000
set_option linter.all false
namespace L2
open PySem PySem.Spec PyProof.Rows
/-- a text m times -/
def rpt (z : Str) (m : Nat) : Str := ⟨(List.replicate m z.cps).foldl (· ++ ·) #[]⟩
theorem fold_size (l : List (Array Nat)) : ∀ a : Array Nat, (l.foldl (· ++ ·) a).size = a.size + (l.map Array.size).sum := by
  induction l with
  | nil => intro a; simp
  | cons x l ih => intro a; rw [List.foldl_cons, ih, Array.size_append, List.map_cons, List.sum_cons, Nat.add_assoc]
theorem rpt_len (z : Str) (m : Nat) : (rpt z m).length = m * z.length := by
  show ((List.replicate m z.cps).foldl (· ++ ·) #[]).size = _
  rw [fold_size]
  simp [Str.length]
theorem fold_list (l : List (Array Nat)) : ∀ a : Array Nat, (l.foldl (· ++ ·) a).toList = a.toList ++ (l.map Array.toList).flatten := by
  induction l with
  | nil => intro a; simp
  | cons x l ih => intro a; rw [List.foldl_cons, ih]; simp
theorem rpt_list (z : Str) (m : Nat) : (rpt z m).cps.toList = (List.replicate m z.cps.toList).flatten := by
  show ((List.replicate m z.cps).foldl (· ++ ·) #[]).toList = _
  rw [fold_list]
  simp
theorem op_rpt {X : Cx} : OpR X (binaryOp .Mult) (fun x y H Q => ∃ (z : Str) (m : Nat), x = .str z ∧ y = .int (m : Nat) ∧ 1 ≤ z.length ∧ z.length ≤ 100 ∧ m ≤ 10000 ∧ Q (.str (rpt z m)) H) := by
  intro pins s σ H x y v u Q I rx ry h
  obtain ⟨z, m, rfl, rfl, l1, l2, hm, q⟩ := h
  obtain ⟨t, rfl⟩ := rx
  obtain ⟨t', rfl⟩ := ry
  have big : m * z.length ≤ sizeLine := Nat.le_trans (Nat.mul_le_mul hm l2) (by decide)
  have hz0 : (z.length == 0) = false := by rw [beq_eq_false_iff_ne]; omega
  refine PySem.P.mul_str ?_ (fun h1 h2 => ?_) (fun h1 h2 => ?_) ?_
  · rw [decide_eq_false (by omega), decide_eq_false (by omega)]; rfl
  · have h3 : (1 : Int) ≤ m := by omega
    have : (10000 : Int) ≤ (2 ^ 63 - 1) / m := by
      rw [Int.le_ediv_iff_mul_le (by omega)]
      omega
    omega
  · unfold PySem.Builtin.Str.tooLong
    rw [Int.toNat_natCast, Nat.mul_comm]
    exact decide_eq_false (Nat.not_lt.mpr big)
  · by_cases c : (m : Int) < 1
    · rw [if_pos c]
      have e : m = 0 := by omega
      subst e
      exact ⟨by decide, ⟨.str Str.empty, H, I.tok _, ⟨_, rfl⟩, q⟩⟩
    · rw [if_neg c, hz0, Bool.or_false]
      by_cases c1 : ((m : Int) == 1) = true
      · rw [if_pos c1]
        have e : m = 1 := by have := beq_iff_eq.mp c1; omega
        subst e
        have e2 : rpt z 1 = z := by
          show (⟨#[] ++ z.cps⟩ : Str) = z
          simp
        rw [e2] at q
        exact ⟨.str z, H, I, ⟨_, rfl⟩, q⟩
      · rw [if_neg c1]
        refine ⟨?_, ⟨.str (rpt z m), H, I.tok _, ⟨_, rfl⟩, q⟩⟩
        show (rpt z m).length ≤ sizeLine
        rw [rpt_len]
        exact big
/-- d.get(key), d a written dict -/
def tKGet (K : PySem.W.Frag) (d : Addr) (ty : TE) : TE := fun σ H Q => ty σ H fun y H1 => ∃ (z : Str) (r : Option Value), y = .str z ∧ PySem.W.nsIn K d z = some r ∧
  ((r = none ∧ Q .non H1) ∨ ∃ u v, r = some u ∧ RelV v u ∧ Q v H1)
theorem pe_kget {X : Cx} {o e : Expr} {apos cpos : Pos} {ty : TE} {d : Addr} (D : KD X.K X.w d) (ho : PE X o (tC (.ref d))) (he : PE X e ty) (m : M1 X o "get" apos e cpos) :
    PE X (.Call (.Attribute o "get" apos) [e] [] cpos) (tKGet X.K d ty) := by
  obtain ⟨es, n, D⟩ := D
  refine ⟨fun pins s σ H Q I h => ?_⟩
  refine wpAny_Call_method m.base m.few m.line PySem.F.plainAttrs_dict PySem.F.slot_dict_get PySem.F.type_dict_get ?_
  refine thn (ho.run pins s σ H (fun x H1 => x = .ref d ∧ H1 = H) I ⟨rfl, rfl⟩) fun u s1 q => ?_
  obtain ⟨x, H1, I1, rx, ex, eh⟩ := q
  subst ex eh
  cases rx
  have M := PySem.W.mapOf_K (prog := X.prog) (w := X.w) I1.kIn D.at_ D.lit
  refine ⟨M.typeIs, fun b q => ?_, ?_⟩
  · cases q
    obtain ⟨ob, es2, ep, h1, h2, _⟩ := M
    exact ⟨ob, h1, h2.2.1⟩
  · rw [m.trees]
    refine PySem.wpAny_dict_get1 (knd := PySem.strKind X.prog X.w) D.low (thn (he.run pins s1 σ _ _ I1 h) fun iv s2 q => ?_)
    obtain ⟨y, H2, I2, ry, z, r, rfl, e, q⟩ := q
    obtain ⟨t, rfl⟩ := ry
    refine ⟨z, _, PySem.strKind_is X.prog X.w z t, PySem.W.mapOf_K (prog := X.prog) (w := X.w) I2.kIn D.at_ D.lit, ?_⟩
    rw [PySem.W.find_K D.at_ e]
    rcases q with ⟨rfl, q⟩ | ⟨u, v, rfl, rv, q⟩
    · exact ⟨.non, H2, I2.tok _, rfl, q⟩
    · exact ⟨v, H2, I2.tok _, rv, q⟩
end L2

set_option Elab.async false
set_option maxRecDepth 100000
set_option maxHeartbeats 4000000
set_option linter.all false
namespace OR
open PySem PySem.Spec PyProof.Rows L2 TS2
/-! ### lines of histories -/
def badLine (l : Str) : Bool :=
  if Txt.startswith l "  " then (match Txt.split (cutS l (some 2) none) " " with
    | w :: _ => decide (w ∈ ctabN)
    | [] => false)
  else (match Txt.split l " " with
    | w :: ws => decide (w ∈ otabN) || (decide (w = "begin") && !(match ws with | [z] => isWord z | _ => false))
    | [] => false)
def badAt (t : Str) : Option Nat := match Txt.split t "\n" with
  | [] => none
  | a :: r => if badLine a then some 0 else if a = "begin go" then (match r with | b :: _ => if badLine b then some 1 else none | [] => none) else none
def histT : Str := "begin go\n  set"
def signs : List Str := ["#", "0", "Z", "_", "~", "\t", "."]
def histOf (i : Nat) (s : Str) : Str := cutS histT none (some (i : Int)) ++ s ++ cutS histT (some (i : Int)) none
theorem hist_bad : ∀ i, i < 15 → ∀ s ∈ signs, (badAt (histOf i s)).isSome = true := by decide +kernel
theorem hist_empty : badAt "" = some 0 := by decide +kernel
end OR

set_option Elab.async false
set_option maxRecDepth 100000
set_option maxHeartbeats 4000000
set_option linter.all false
namespace OR
open PySem PySem.Spec PyProof.Rows L2 TS2
abbrev kw3 : List Str := ["asks", "signals", "inputs"]
/-- raised: an own error with these fields -/
def Rz (C : Addr) (kvs : List (Str × V)) (Cs : Addr → Prop) (H : Hp) (E : XK) : Prop := ∀ (d0 : Addr) (H' : Hp), Kp Cs H H' → H d0 = none → H' d0 = some (.xd kvs) → E (.ref C) (some d0) H'
theorem Rz.of {C : Addr} {kvs : List (Str × V)} {Cs Cs' : Addr → Prop} {H H1 : Hp} {E : XK} (r : Rz C kvs Cs H E) (k : Kp Cs H H1) (f : ∀ b, H1 b = none → H b = none) (h : ∀ b, Cs' b → Cs b ∨ H b = none) : Rz C kvs Cs' H1 E := fun d0 H' k' n e =>
  r d0 H' (fun b o hb nb => k' b o (k b o hb nb) fun c => by rcases h b c with z | z; exact nb z; rw [hb] at z; cases z) (f _ n) e
theorem rz_now {C : Addr} {kvs : List (Str × V)} {Cs : Addr → Prop} {H H' : Hp} {E : XK} {d0 : Addr} (r : Rz C kvs Cs H E) (nd : H d0 = none) (hd : H' d0 = some (.xd kvs)) (oth : ∀ b, b ≠ d0 → H' b = H b) : E (.ref C) (some d0) H' :=
  r d0 H' (fun b o hb _ => by rw [oth b (ne_of_none hb nd)]; exact hb) nd hd
abbrev cIA (K : PySem.W.Frag) : Addr := He.ga K "InvalidArgument"
abbrev cIH (K : PySem.W.Frag) : Addr := He.ga K "InvalidHistory"
abbrev cIT (K : PySem.W.Frag) : Addr := He.ga K "InvalidText"
structure SrcAt (K : PySem.W.Frag) (H : Hp) (p ll dx : Addr) (ls : List Str) (n : Nat) : Prop where
  ob : H p = some (.ins (He.ga K "Source") dx [("lines", .ref ll), ("lines_read", .int (n : Nat))])
  l : H ll = some (.lst (ls.map V.str))
  z : ∀ x ∈ ls, x.length + 2 ≤ sizeLine
theorem SrcAt.same {K : PySem.W.Frag} {H H' : Hp} {p ll dx : Addr} {ls : List Str} {n : Nat} (h : SrcAt K H p ll dx ls n) (s : Same H H') : SrcAt K H' p ll dx ls n := ⟨s _ _ h.ob, s _ _ h.l, h.z⟩
def lineAt (ls : List Str) (n : Nat) : Str := ls.getD n ""
theorem SrcAt.lz {K : PySem.W.Frag} {H : Hp} {p ll dx : Addr} {ls : List Str} {n : Nat} (h : SrcAt K H p ll dx ls n) : (lineAt ls n).length + 2 ≤ sizeLine := by
  unfold lineAt
  rw [List.getD_eq_getElem?_getD]
  cases e : ls[n]? with
  | none => show ("" : Str).length + 2 ≤ sizeLine; decide +kernel
  | some x => exact h.z x (List.mem_of_getElem? e)
def bare (l : Str) : Str := Txt.lstripChars l " "
def wordsAt (l : Str) : List Str := Txt.split (bare l) " "
def atB (l : Str) (v : Int) : Bool := decide (v ≤ 12) && decide ((l.length : Int) - ((bare l).length : Int) = 2 * v)
theorem bare_le (l : Str) : (bare l).length ≤ l.length := by
  show (Txt.lstripChars l " ").length ≤ l.length
  unfold Txt.lstripChars Txt.stripBy
  split
  · exact Nat.le_refl _
  · unfold PySem.stripped PySem.Builtin.Str.strSub
    show (Array.extract _ _ _).size ≤ l.cps.size
    rw [Array.size_extract]
    omega
def spSrcInit (K : PySem.W.Frag) : Sp := fun vs H Q _ => ∃ (p dx : Addr) (t : Str), vs = [.ref p, .str t] ∧ H p = some (.ins (He.ga K "Source") dx []) ∧ t.length + 2 ≤ sizeLine ∧
  ∀ (H' : Hp) (ll : Addr), Sv H H' p → H ll = none → H' p = some (.ins (He.ga K "Source") dx [("lines", .ref ll), ("lines_read", .int 0)]) → H' ll = some (.lst ((Txt.split t "\n").map V.str)) → Q .non H'
def spNextLine (K : PySem.W.Frag) : Sp := fun vs H Q _ => ∃ (p ll dx : Addr) (ls : List Str) (n : Nat), vs = [.ref p] ∧ SrcAt K H p ll dx ls n ∧ Q (.str (lineAt ls n)) H
def spNextWords (K : PySem.W.Frag) : Sp := fun vs H Q _ => ∃ (p ll dx : Addr) (ls : List Str) (n : Nat), vs = [.ref p] ∧ SrcAt K H p ll dx ls n ∧ ∀ (r : Addr) (H' : Hp), Same H H' → H r = none → H' r = some (.lst ((wordsAt (lineAt ls n)).map V.str)) → Q (.ref r) H'
def spIsAt (K : PySem.W.Frag) : Sp := fun vs H Q _ => ∃ (p ll dx : Addr) (ls : List Str) (n : Nat) (v : Int), vs = [.ref p, .int v] ∧ SrcAt K H p ll dx ls n ∧ 0 ≤ v ∧ v ≤ 1000 ∧ Q (.bl (atB (lineAt ls n) v)) H
def spGoOn (K : PySem.W.Frag) : Sp := fun vs H Q E => ∃ (p ll dx : Addr) (ls : List Str) (n : Nat) (b : Bool), vs = [.ref p, .bl b] ∧ SrcAt K H p ll dx ls n ∧ n ≤ 100000 ∧
  (b = true → Q .non (upd H p (.ins (He.ga K "Source") dx [("lines", .ref ll), ("lines_read", .int ((n + 1 : Nat) : Int))]))) ∧ (b = false → Rz (cIT K) [("line", .int ((n + 1 : Nat) : Int))] (fun _ => False) H E)
def someW (ws : List Str) : Bool := decide ((0 : Int) < (ws.length : Int)) && (ws.map isWord).all id
def spAreSome (K : PySem.W.Frag) : Sp := fun vs H Q _ => ∃ (a : Addr) (ws : List Str), vs = [.ref a] ∧ H a = some (.lst (ws.map V.str)) ∧ (∀ x ∈ ws, x.length ≤ sizeLine) ∧ ws.length ≤ 1000 ∧ ∀ H', Same H H' → Q (.bl (someW ws)) H'
section
variable {P : Program} {w : World} {K : PySem.W.Frag} {mg : Str → Option Value} {base : Heap}
theorem ok_src {f : Addr} {fd : FuncData} (F : FnP K "__init__" "Source.__init__" s_Source___init__ f fd) (T : Tx w K mg) : FnOk P w K mg base CX0 1 f fd p_Source___init__ (spSrcInit K) := by
  refine F.ok sc_Source___init__ (fun vs H Q E h => ?_) (fun cdv A outer s H vs Q E hr h => ?_)
  · obtain ⟨p, dx, t, rfl, _⟩ := h
    rfl
  · obtain ⟨p, dx, t, rfl, hp, hz, k⟩ := h
    refine ⟨_, PSs.nox (pss_cons (ps_fld (pv 0) (pe_split (pv 1) pe_str) rfl)
      (pss_one (ps_fld (pv 0) pe_int rfl))), ?_⟩
    refine ⟨_, rfl, ⟨_, rfl⟩, t, "\n", rfl, rfl, by decide +kernel, hz, fun ll nll => ?_⟩
    have Sl := Same.new (o := .lst ((Txt.split t "\n").map V.str)) nll
    have hll : upd H ll (.lst ((Txt.split t "\n").map V.str)) ll = some (.lst ((Txt.split t "\n").map V.str)) := upd_same
    generalize upd H ll (.lst ((Txt.split t "\n").map V.str)) = H1 at Sl hll ⊢
    have hp1 := Sl _ _ hp
    have pl : p ≠ ll := ne_of_none hp nll
    refine ⟨_, rfl, p, _, dx, _, rfl, hp1, T.c_Source, T.n_Source_lines, (by show 0 < 1000; decide), ?_⟩
    have hp2 : upd H1 p (.ins (He.ga K "Source") dx (putF "lines" (.ref ll) [])) p = some (.ins (He.ga K "Source") dx [("lines", .ref ll)]) := upd_same
    refine ⟨_, rfl, p, _, dx, _, rfl, hp2, T.c_Source, T.n_Source_lines_read, (by show 1 < 1000; decide), ?_⟩
    refine k _ ll (fun b o hb nb => ?_) nll upd_same ?_
    · rw [upd_ne nb, upd_ne nb]
      exact Sl _ _ hb
    · rw [upd_ne pl.symm, upd_ne pl.symm]
      exact hll
theorem ok_next_line {f : Addr} {fd : FuncData} (F : FnP K "next_line" "Source.next_line" s_Source_next_line f fd) (T : Tx w K mg) : FnOk P w K mg base CX0 1 f fd p_Source_next_line (spNextLine K) := by
  refine F.ok sc_Source_next_line (fun vs H Q E h => ?_) (fun cdv A outer s H vs Q E hr h => ?_)
  · obtain ⟨p, ll, dx, ls, n, rfl, _⟩ := h
    rfl
  · obtain ⟨p, ll, dx, ls, n, rfl, S, k⟩ := h
    refine ⟨_, PSs.nox (pss_one (ps_ret (pe_ifExp (pt_cmpR op_lt (pe_fld (pv 0) rfl) (pe_callB call_len_seq (by rfl) T.b_len PySem.boot_len (pa_cons (pe_fld (pv 0) rfl) pa_nil)) (nomark _)) (pe_ix ix_list (pe_fld (pv 0) rfl) (pe_fld (pv 0) rfl) (fun _ _ => rfl)) pe_str))), ?_⟩
    refine ⟨_, rfl, p, _, dx, _, .int (n : Nat), rfl, S.ob, T.c_Source, T.n_Source_lines_read, rfl, _, rfl, p, _, dx, _, .ref ll, rfl, S.ob, T.c_Source, T.n_Source_lines, rfl, ll, _, rfl, .inl (SqL.of S.l), _, _, rfl, rfl, _, rfl, ?_⟩
    have el : lineAt ls n = ls.getD n "" := rfl
    rw [List.length_map]
    refine ite2 (fun hb => ?_) fun hb => ?_
    · have hn : n < ls.length := by have := of_decide_eq_true hb; omega
      refine ⟨_, rfl, p, _, dx, _, .ref ll, rfl, S.ob, T.c_Source, T.n_Source_lines, rfl, _, rfl, p, _, dx, _, .int (n : Nat), rfl, S.ob, T.c_Source, T.n_Source_lines_read, rfl, ?_⟩
      refine ⟨ll, _, (n : Int), .str (lineAt ls n), rfl, rfl, SqL.of S.l, atI_nat ?_, k⟩
      rw [List.getElem?_map, List.getElem?_eq_getElem hn, el, List.getD_eq_getElem?_getD, List.getElem?_eq_getElem hn]
      rfl
    · have hn : ¬ n < ls.length := fun z => hb (decide_eq_true (by omega))
      have e : lineAt ls n = "" := by rw [el, List.getD_eq_getElem?_getD, List.getElem?_eq_none (by omega)]; rfl
      rw [e] at k
      exact k
theorem ok_next_words {f : Addr} {fd : FuncData} (F : FnP K "next_words" "Source.next_words" s_Source_next_words f fd) (T : Tx w K mg) (M_next_line : MDef P w K mg base CX0 1 (He.ga K "Source") "next_line" p_Source_next_line (spNextLine K)) : FnOk P w K mg base CX0 2 f fd p_Source_next_words (spNextWords K) := by
  refine F.ok sc_Source_next_words (fun vs H Q E h => ?_) (fun cdv A outer s H vs Q E hr h => ?_)
  · obtain ⟨p, ll, dx, ls, n, rfl, _⟩ := h
    rfl
  · obtain ⟨p, ll, dx, ls, n, rfl, S, k⟩ := h
    refine ⟨_, PSs.nox (pss_one (ps_ret (pe_split (pe_m1 PySem.F.slot_str_lstrip PySem.F.type_str_lstrip mt_lstripChars (pe_mth0 M_next_line (hr.mono (by omega)) pass0 (pv 0)) pe_str) pe_str))), ?_⟩
    have lz := S.lz
    refine ⟨_, rfl, p, dx, _, rfl, S.ob, rfl, ?_⟩
    refine ⟨p, ll, dx, ls, n, rfl, S, ?_⟩
    refine ⟨⟨_, rfl⟩, _, " ", rfl, rfl, by omega, ⟨_, rfl⟩, ?_⟩
    have lb := bare_le (lineAt ls n)
    refine ⟨_, " ", rfl, rfl, by decide +kernel, ?_, fun r nr => k r _ (Same.new nr) nr upd_same⟩
    show (bare (lineAt ls n)).length + 2 ≤ sizeLine
    omega
theorem ok_is_at {f : Addr} {fd : FuncData} (F : FnP K "is_at" "Source.is_at" s_Source_is_at f fd) (T : Tx w K mg) (M_next_line : MDef P w K mg base CX0 1 (He.ga K "Source") "next_line" p_Source_next_line (spNextLine K)) : FnOk P w K mg base CX0 2 f fd p_Source_is_at (spIsAt K) := by
  refine F.ok sc_Source_is_at (fun vs H Q E h => ?_) (fun cdv A outer s H vs Q E hr h => ?_)
  · obtain ⟨p, ll, dx, ls, n, v, rfl, _⟩ := h
    rfl
  · obtain ⟨p, ll, dx, ls, n, v, rfl, S, v0, v1, k⟩ := h
    obtain ⟨t1, mDEEPEST_LEVEL⟩ := T.m_DEEPEST_LEVEL
    obtain ⟨t2, mSTEP⟩ := T.m_STEP
    refine ⟨_, PSs.nox (pss_cons (ps_set (i := 2) sc_Source_is_at.nd rfl (.inl rfl) (pe_mth0 M_next_line (hr.mono (by omega)) pass0 (pv 0)))
      (pss_one (ps_ret (pe_and (pe_cmpR op_le (pv 1) (pe_glob (by rfl) mDEEPEST_LEVEL (show RelV (.int (12)) _ from ⟨_, rfl⟩)) (nomark _)) (pe_one (pe_cmpR op_eq (pe_op op_sub (pe_callB call_len_str (by rfl) T.b_len PySem.boot_len (pa_cons (pv 2) pa_nil)) (pe_callB call_len_str (by rfl) T.b_len PySem.boot_len (pa_cons (pe_m1 PySem.F.slot_str_lstrip PySem.F.type_str_lstrip mt_lstripChars (pv 2) pe_str) pa_nil))) (pe_op op_mul (pe_callB call_len_str (by rfl) T.b_len PySem.boot_len (pa_cons (pe_glob (by rfl) mSTEP (show RelV (.str "  ") _ from ⟨_, rfl⟩)) pa_nil)) (pv 1)) (nomark _))))))), ?_⟩
    have lz := S.lz
    have lb := bare_le (lineAt ls n)
    refine ⟨_, rfl, p, dx, _, rfl, S.ob, rfl, ?_⟩
    refine ⟨p, ll, dx, ls, n, rfl, S, ?_⟩
    have e : atB (lineAt ls n) v = (decide (v ≤ 12) && decide (((lineAt ls n).length : Int) - ((bare (lineAt ls n)).length : Int) = 2 * v)) := rfl
    generalize lineAt ls n = l at *
    refine ⟨_, rfl, v, 12, rfl, rfl, ?_⟩
    by_cases c : v ≤ 12
    · refine ⟨_, rfl, iteT' (decide_eq_true c) ?_⟩
      refine ⟨_, rfl, l, rfl, by omega, ?_⟩
      refine ⟨_, rfl, ⟨_, rfl⟩, l, " ", rfl, rfl, by omega, ?_⟩
      refine ⟨bare l, rfl, by omega, ?_⟩
      refine ⟨_, _, rfl, rfl, ?_⟩
      refine ⟨"  ", rfl, by decide +kernel, ?_⟩
      have l2 : ("  " : Str).length = 2 := by decide +kernel
      refine ⟨_, rfl, _, _, rfl, rfl, ?_⟩
      rw [l2]
      refine ⟨.inl ⟨by decide, by omega⟩, rfl, ?_⟩
      show Q (.bl (decide (V.int _ = V.int _))) H
      rw [e, decide_eq_true c] at k
      have ed : decide (V.int ((l.length : Int) - ((bare l).length : Int)) = V.int (((2 : Nat) : Int) * v)) = decide ((l.length : Int) - ((bare l).length : Int) = 2 * v) := by
        congr 1
        exact propext ⟨fun z => V.int.inj z, fun z => congrArg V.int z⟩
      rw [ed]
      exact k
    · refine ⟨_, rfl, iteF' (decide_eq_false c) ?_⟩
      rw [e, decide_eq_false c] at k
      exact k
theorem ok_go_on {f : Addr} {fd : FuncData} (F : FnP K "go_on" "Source.go_on" s_Source_go_on f fd) (T : Tx w K mg) (E_InvalidText : ErrDef P w K mg base CX0 1 "InvalidText" (cIT K) ["self", "line"] ["line"]) : FnOk P w K mg base (L2.CX P w) 3 f fd p_Source_go_on (spGoOn K) := by
  refine F.ok sc_Source_go_on (fun vs H Q E h => ?_) (fun cdv A outer s H vs Q E hr h => ?_)
  · obtain ⟨p, ll, dx, ls, n, b, rfl, _⟩ := h
    rfl
  · obtain ⟨p, ll, dx, ls, n, b, rfl, S, hn, kt, kf⟩ := h
    refine ⟨_, (pss_cons (ps_if (pt_not (pt_val (pv 1))) (pss_one (ps_raise rfl (takes_of rfl rfl rfl rfl) (pmk_errL E_InvalidText (hr.mono (by omega)) (by rfl) pass0 (pa_cons (pe_op op_add (pe_fld (pv 0) rfl) pe_int) pa_nil)))) pss_nil)
      (pss_one (ps_fldaug (pv 0) pe_int in_add))), ?_⟩
    cases b with
    | false =>
      refine ⟨_, rfl, _, rfl, iteT ?_⟩
      refine ⟨_, rfl, p, _, dx, _, .int (n : Nat), rfl, S.ob, T.c_Source, T.n_Source_lines_read, rfl, _, _, rfl, rfl, ?_⟩
      refine ⟨rfl, fun d0 H' nd hd oth => ?_⟩
      exact rz_now (kf rfl) nd hd oth
    | true =>
      refine ⟨_, rfl, _, rfl, iteF ?_⟩
      refine ⟨_, rfl, p, _, dx, _, .int (n : Nat), rfl, S.ob, T.c_Source, T.n_Source_lines_read, rfl, ?_⟩
      refine ⟨_, _, rfl, rfl, dx, _, S.ob, by show 2 < 1000; decide, ?_⟩
      exact kt rfl
theorem ok_are_some {f : Addr} {fd : FuncData} (F : FnP K "are_some" "are_some" s_are_some f fd) (T : Tx w K mg) (G_is_word : Def P w K mg base CX0 1 "is_word" p_is_word (spIsWord K)) : FnOk P w K mg base CX0 2 f fd p_are_some (spAreSome K) := by
  refine F.ok sc_are_some (fun vs H Q E h => ?_) (fun cdv A outer s H vs Q E hr h => ?_)
  · obtain ⟨a, ws, rfl, _⟩ := h
    rfl
  · obtain ⟨a, ws, rfl, ha, hz, few, k⟩ := h
    refine ⟨_, PSs.nox (pss_one (ps_ret (pe_and (pe_cmpR op_gt (pe_callB call_len_seq (by rfl) T.b_len PySem.boot_len (pa_cons (pv 0) pa_nil)) pe_int (nomark _)) (pe_one (pe_callB (cr_all rfl) (by rfl) T.b_all (by decide +kernel) (pa_cons (pe_lc (own := [("word", 1)]) (g := (gName 1)) (by rfl) sc_are_some.nd (pi_list (pv 0)) (blkOk_by (N := n_are_some) (sc := defScope s_are_some) (by decide +kernel)) (fun _ _ _ _ _ => (pg_name (i := 1) sc_are_some.nd rfl (.inl rfl))) (fun _ _ _ _ _ => pts_nil) (fun _ _ _ _ _ => (pe_fn G_is_word (hr.mono (by omega)) (by rfl) pass0 (pa_cons (pv 1) pa_nil)))) pa_nil)))))), ?_⟩
    refine ⟨_, rfl, a, _, rfl, .inl (SqL.of ha), _, _, rfl, rfl, ?_⟩
    rw [List.length_map]
    cases e : decide ((0 : Int) < (ws.length : Int)) with
    | false =>
      refine ⟨_, rfl, iteF' e ?_⟩
      have e2 : someW ws = false := by unfold someW; rw [e]; rfl
      rw [← e2]
      exact k H (Same.refl H)
    | true =>
      refine ⟨_, rfl, iteT' e ?_⟩
      refine ⟨_, rfl, a, rfl, ⟨_, SqL.of ha⟩, fun D nD => ?_⟩
      refine lc_it (walk_list (K := K) (a := a) (xs := ws.map V.str)) (fun i H' => Same H H' ∧ H' D = some (.lst (((ws.map isWord).take i).map V.bl))) ⟨Same.new nD, upd_same⟩ (fun i H' _ q => SqL.of (q.1 _ _ ha)) (fun i x H1 H2 hi p y => ?_) (fun H1 p => ?_)
      · obtain ⟨rfl, hx⟩ := y
        obtain ⟨S, hD⟩ := p
        rw [List.getElem?_map] at hx
        cases ez : ws[i]? with
        | none => rw [ez] at hx; cases hx
        | some z =>
          rw [ez] at hx
          cases Option.some.inj hx
          refine ⟨rfl, ?_⟩
          refine tYes_ ?_
          refine iteT ?_
          refine ⟨_, rfl, .inl ⟨z, rfl, hz z (List.mem_of_getElem? ez), fun H2 S2 => ?_⟩⟩
          refine ⟨_, S2 _ _ hD, ?_, fun b o hb => ?_, ?_⟩
          · rw [List.length_map, List.length_take, List.length_map]
            exact small1000 (by omega)
          · rw [upd_ne (ne_of_none hb nD)]
            exact S2 _ _ (S _ _ hb)
          · rw [upd_same, take_more (x := isWord z) (by rw [List.getElem?_map, ez]; rfl), List.map_append]
            rfl
      · obtain ⟨S, hD⟩ := p
        refine ⟨D, ws.map isWord, rfl, SqL.of (by rw [hD, List.length_map, List.take_of_length_le (by simp)]), ?_⟩
        have e2 : someW ws = (ws.map isWord).all id := by unfold someW; rw [e]; rfl
        rw [← e2]
        exact k H1 S
end
end OR

set_option Elab.async false
set_option maxRecDepth 100000
set_option maxHeartbeats 8000000
set_option linter.all false
namespace OR
open PySem PySem.Spec PyProof.Rows L2 TS2
def innerF (f : Str) : Bool := decide (f ∈ (["rows", "sides"] : List Str))
def plainFs (fs : List Str) : List Str := fs.filter fun f => !innerF f
def sevF (f : Str) : Bool := decide (f ∈ (["labels", "words"] : List Str))
def spPartsOf (K : PySem.W.Frag) : Sp := fun vs H Q _ => ∃ (a : Addr) (w0 : Str) (r fs : List Str), vs = [.ref a] ∧ H a = some (.lst ((w0 :: r).map V.str)) ∧ someW (w0 :: r) = true ∧ (∀ x ∈ w0 :: r, x.length ≤ sizeLine) ∧ (w0, fs) ∈ ftab ∧ w0 ≠ "edit" ∧ r.length = (plainFs fs).length ∧ (∀ f ∈ plainFs fs, sevF f = false) ∧
  ∀ (D : Addr) (H' : Hp), Same H H' → H D = none → H' D = some (.lst ((w0 :: r).map V.str)) → Q (.ref D) H'
section
variable {P : Program} {w : World} {K : PySem.W.Frag} {mg : Str → Option Value} {base : Heap}
theorem filter_le4 {fs : List Str} {w0 : Str} (h : (w0, fs) ∈ ftab) : (plainFs fs).length ≤ 4 := Nat.le_trans (List.length_filter_le _ _) (ftab_four _ h)
theorem plainFs_more {fs : List Str} {i : Nat} {f0 : Str} (ef : fs[i]? = some f0) : plainFs (fs.take (i + 1)) = plainFs (fs.take i) ++ (if innerF f0 then [] else [f0]) := by
  unfold plainFs
  rw [take_more ef, List.filter_append, List.filter_cons, List.filter_nil]
  cases innerF f0 <;> rfl
theorem at0' {x : Str} {r : List Str} : atI ((x :: r).map V.str) 0 = some (.str x) := at0
theorem ok_parts_of {f : Addr} {fd : FuncData} (F : FnP K "parts_of" "parts_of" s_parts_of f fd) (T : Tx w K mg) (G_are_some : Def P w K mg base CX0 2 "are_some" p_are_some (spAreSome K)) : FnOk P w K mg base CX0 3 f fd p_parts_of (spPartsOf K) := by
  refine F.ok sc_parts_of (fun vs H Q E h => ?_) (fun cdv A outer s H vs Q E hr h => ?_)
  · obtain ⟨a, w0, r, fs, rfl, _⟩ := h
    rfl
  · obtain ⟨a, w0, r, fs, rfl, ha, sw, hz, hf, ne, hl, nsv, k⟩ := h
    obtain ⟨tE, mEDIT⟩ := T.m_EDIT
    obtain ⟨pF, e1, hpF⟩ := T.forms _ hf
    have l4 := filter_le4 hf
    have f4 : fs.length ≤ 4 := ftab_four _ hf
    refine ⟨_, PSs.nox (pss_cons (ps_if (PW.pt (pw_or (pt_not (pt_val (pe_fn G_are_some (hr.mono (by omega)) (by rfl) pass0 (pa_cons (pv 0) pa_nil)))) (pw_or (pt_cmpR (op_notIn_kd' T.D_FORMS) (pe_ix ix_list (pv 0) pe_int (fun _ _ => rfl)) (pe_ref (by rfl) T.m_FORMS) (by rfl)) (pw_or1 (pt_cmpR op_eq (pe_ix ix_list (pv 0) pe_int (fun _ _ => rfl)) (pe_glob (by rfl) mEDIT (show RelV (.str "edit") _ from ⟨_, rfl⟩)) (nomark _)))))) (pss_one (ps_ret (pe_lst pa_nil))) pss_nil)
      (pss_cons (ps_setLc (i := 1) (own := [("form", 5)]) (g := (gName 5)) (by rfl) sc_parts_of.nd rfl rfl (sw_true rfl rfl rfl (by decide +kernel)) (pi_tup (pe_ix ix_kdict (pe_ref (by rfl) T.m_FORMS) (pe_ix ix_list (pv 0) pe_int (fun _ _ => rfl)) (fun _ _ => rfl))) (blkOk_by (N := n_parts_of) (sc := defScope s_parts_of) (by decide +kernel)) (fun _ _ _ _ _ => (pg_name (i := 5) sc_parts_of.nd rfl (.inl rfl))) (fun _ _ _ _ _ => (pts_one (pt_cmpR (show OpR _ (compareOp .NotIn) (rIn K true) from op_notIn_seq) (pv 5) (pe_ref (by rfl) T.m_INNER) (by rfl)))) (fun _ _ _ _ _ => (pv 5)))
      (pss_cons (ps_set (i := 2) sc_parts_of.nd rfl (.inl rfl) (pe_op op_sub (pe_op op_sub (pe_callB call_len_seq (by rfl) T.b_len PySem.boot_len (pa_cons (pv 0) pa_nil)) pe_int) (pe_callB call_len_seq (by rfl) T.b_len PySem.boot_len (pa_cons (pv 1) pa_nil))))
      (pss_cons (ps_if (PW.pt (pw_or (pt_cmpR op_lt (pv 2) pe_int (nomark _)) (pw_or1 (PW.pt (pw_and (pt_cmpR op_gt (pv 2) pe_int (nomark _)) (pw_and1 (pt_not (pt_val pe_never)))))))) (pss_one (ps_ret (pe_lst pa_nil))) pss_nil)
      (pss_cons (ps_set (i := 3) sc_parts_of.nd rfl (.inl rfl) (pe_lst (pa_cons (pe_ix ix_list (pv 0) pe_int (fun _ _ => rfl)) pa_nil)))
      (pss_cons (ps_set (i := 4) sc_parts_of.nd rfl (.inl rfl) pe_int)
      (pss_cons (ps_for PassesOwn.never rfl (pi_list (pv 1)) (pg_name (i := 5) sc_parts_of.nd rfl (.inl rfl)) (pss_cons (ps_if (pt_cmpR op_in_seq (pv 5) (pe_ref (by rfl) T.m_SEVERAL) (by rfl)) (pss_cons ps_never
      (pss_one ps_never)) (pss_one (ps_expr (pe_bm PySem.F.plainAttrs_list PySem.F.slot_list_append PySem.F.type_list_append mt_append (pv 3) (pa_cons (pe_ix ix_list (pv 0) (pv 4) (fun _ _ => rfl)) pa_nil)))))
      (pss_one (ps_aug (i := 4) sc_parts_of.nd rfl (.inl rfl) pe_int ip_add))))
      (pss_one (ps_ret (pv 3)))))))))), ?_⟩
    refine ⟨_, rfl, a, w0 :: r, rfl, ha, hz, by rw [List.length_cons]; omega, fun H1 S1 => ?_⟩
    rw [sw]
    have ha1 := S1 _ _ ha
    refine ⟨_, rfl, iteF ?_⟩
    refine ⟨_, rfl, a, _, _, .str w0, rfl, rfl, SqL.of ha1, at0', w0, _, rfl, rfl, e1, _, rfl, iteF ?_⟩
    refine ⟨_, rfl, a, _, _, .str w0, rfl, rfl, SqL.of ha1, at0', rfl, _, rfl, iteF' (by show decide (V.str w0 = V.str "edit") = false; exact decide_eq_false fun z => ne (V.str.inj z)) ?_⟩
    -- forms
    refine ⟨_, rfl, a, _, _, .str w0, rfl, rfl, SqL.of ha1, at0', _, _, .ref pF, rfl, rfl, kdct T.D_FORMS e1 rfl, pF, rfl, ⟨_, hpF _⟩, fun D nD => ?_⟩
    refine lc_it (walk_tup (K := K) (a := pF) (xs := fs.map V.str)) (fun i H' => Same H1 H' ∧ H' D = some (.lst ((plainFs (fs.take i)).map V.str))) ⟨Same.new nD, upd_same⟩ (fun i H' _ q => hpF _) (fun i x H2 H3 hi q y => ?_) (fun H2 q => ?_)
    · obtain ⟨rfl, hx⟩ := y
      obtain ⟨S2, hD⟩ := q
      rw [List.getElem?_map] at hx
      cases ef : fs[i]? with
      | none => rw [ef] at hx; cases hx
      | some f0 =>
        rw [ef] at hx
        cases Option.some.inj hx
        have es := plainFs_more ef
        refine ⟨rfl, ?_⟩
        refine ⟨_, rfl, _, [.str "rows", .str "sides"], rfl, .inr (T.t_INNER _), rfl, rfl, _, rfl, ?_⟩
        have ei : inV (V.str f0) [.str "rows", .str "sides"] = innerF f0 := inV_words (ws := ["rows", "sides"])
        cases e0 : innerF f0 with
        | true =>
          refine iteF' (by rw [ei, e0]; rfl) ?_
          exact ⟨S2, by rw [es, e0, hD]; simp⟩
        | false =>
          refine iteT' (by rw [ei, e0]; rfl) ?_
          refine ⟨_, rfl, _, hD, ?_, fun b o hb => ?_, ?_⟩
          · rw [List.length_map]
            have : (plainFs (fs.take i)).length ≤ (fs.take i).length := List.length_filter_le _ _
            rw [List.length_take] at this
            exact small1000 (by omega)
          · rw [upd_ne (ne_of_none hb nD)]
            exact S2 _ _ hb
          · rw [upd_same, es, e0]
            simp
    · obtain ⟨S2, hD⟩ := q
      rw [List.length_map, List.take_length] at hD
      have ha2 := S2 _ _ ha1
      have aD : a ≠ D := ne_of_none ha1 nD
      have HD : H D = none := S1.free nD
      have S02 := S1.trans S2
      refine ⟨_, rfl, a, _, rfl, .inl (SqL.of ha2), _, _, rfl, rfl, _, rfl, D, _, rfl, .inl (SqL.of hD), _, _, rfl, rfl, ?_⟩
      have e0 : (((w0 :: r).map V.str).length : Int) - 1 - (((plainFs fs).map V.str).length : Int) = 0 := by
        rw [List.length_map, List.length_map, List.length_cons]
        omega
      dsimp only [gName]
      rw [e0]
      refine ⟨_, rfl, _, _, rfl, rfl, _, rfl, iteF ?_⟩
      refine ⟨_, rfl, _, _, rfl, rfl, _, rfl, iteF ?_⟩
      refine iteF ?_
      refine ⟨_, rfl, a, _, _, .str w0, rfl, rfl, SqL.of ha2, at0', by show 1 ≤ sizeLine; decide, fun L nL => ?_⟩
      have SL : Same H2 (upd H2 L (.lst [.str w0])) := Same.new nL
      have hL : upd H2 L (.lst [.str w0]) L = some (.lst [.str w0]) := upd_same
      have aL : a ≠ L := ne_of_none ha2 nL
      have DL : D ≠ L := ne_of_none hD nL
      generalize upd H2 L (.lst [.str w0]) = H3 at SL hL ⊢
      refine ⟨_, rfl, D, rfl, ⟨_, SqL.of (SL _ _ hD)⟩, ?_⟩
      refine for_it (walk_list (K := K) (a := D) (xs := (plainFs fs).map V.str)) (fun i σ' H' => (∃ x, σ' = [some (.ref a), some (.ref D), some (.int 0), some (.ref L), some (.int ((i + 1 : Nat) : Int)), x]) ∧ Kp (· = L) H3 H' ∧ H' L = some (.lst ((w0 :: r.take i).map V.str)))
        ⟨⟨_, rfl⟩, Kp.refl _, by rw [hL, List.take_zero]; rfl⟩ (fun i σ' H' _ q => SqL.of (q.2.1 _ _ (SL _ _ hD) DL)) (fun i x σ' H4 H5 hi q y => ?_) (fun σ' H4 q => ?_)
      · obtain ⟨⟨x0, rfl⟩, kp, h4⟩ := q
        obtain ⟨rfl, hx⟩ := y
        rw [List.getElem?_map] at hx
        rw [List.length_map] at hi
        cases ef : (plainFs fs)[i]? with
        | none => rw [ef] at hx; cases hx
        | some f0 =>
          rw [ef] at hx
          cases Option.some.inj hx
          have hr : i < r.length := by omega
          have er : r[i]? = some r[i] := List.getElem?_eq_getElem hr
          have nf := nsv f0 (List.mem_of_getElem? ef)
          have ei : inV (V.str f0) [.str "labels", .str "words"] = sevF f0 := inV_words (ws := ["labels", "words"])
          refine ⟨_, rfl, _, [.str "labels", .str "words"], rfl, .inr (T.t_SEVERAL _), rfl, rfl, _, rfl, ?_⟩
          refine iteF' (by rw [ei, nf]; rfl) ?_
          have ha5 := kp _ _ (SL _ _ ha2) aL
          refine ⟨_, rfl, .inl ⟨rfl, _, SqL.of h4⟩, _, rfl, _, rfl, a, _, _, .str r[i], rfl, rfl, SqL.of ha5, ?_, L, _, _, rfl, rfl, h4, ?_, ?_⟩
          · exact atI_nat (by rw [List.map_cons, List.getElem?_cons_succ, List.getElem?_map, er]; rfl)
          · rw [List.length_map, List.length_cons, List.length_take]
            exact small1000 (by omega)
          · refine ⟨_, rfl, _, _, rfl, rfl, ⟨_, rfl⟩, kp.trans (Kp.put rfl), ?_⟩
            rw [upd_same, take_more er, List.map_cons, List.map_cons, List.map_append]
            rfl
      · obtain ⟨⟨x0, rfl⟩, kp, h4⟩ := q
        rw [List.length_map, ← hl, List.take_length] at h4
        refine ⟨_, rfl, ?_⟩
        exact k L _ (S02.trans (Kp.D SL kp nL)) (S02.free nL) h4
end
end OR

set_option Elab.async false
set_option maxRecDepth 100000
set_option maxHeartbeats 4000000
set_option linter.all false
namespace OR
open PySem PySem.Spec PyProof.Rows L2 TS2
/-! ### the lines of nested rows -/
def kdW : Nat → Str
  | 0 => "loop"
  | 1 => "part"
  | _ => "past"
def kdR : Nat → List Str
  | 0 => []
  | 1 => []
  | _ => ["g"]
def kdT : Nat → Str
  | 0 => "loop"
  | 1 => "part"
  | _ => "past g"
def kdF : Nat → List Str
  | 0 => ["rows"]
  | 1 => ["rows"]
  | _ => ["gate", "rows"]
def lineOf (v k : Nat) : Str := rpt "  " v ++ kdT k
theorem line_words : ∀ v, v ≤ 12 → ∀ k, k < 3 → wordsAt (lineOf v k) = kdW k :: kdR k := by decide +kernel
theorem line_at : ∀ v, v ≤ 13 → ∀ u, u ≤ 12 → ∀ k, k < 3 → atB (lineOf v k) (u : Nat) = decide (v = u) := by decide +kernel
theorem atB_13 (l : Str) {v : Int} (h : 12 < v) : atB l v = false := by
  unfold atB
  rw [decide_eq_false (by omega)]
  rfl
theorem atB_end {v : Int} (h : 1 ≤ v) : atB "" v = false := by
  unfold atB
  have e : (bare "").length = 0 := by decide +kernel
  have e2 : ("" : Str).length = 0 := by decide +kernel
  rw [e, e2, decide_eq_false (p := ((0 : Nat) : Int) - ((0 : Nat) : Int) = 2 * v) (by omega)]
  exact Bool.and_false _
theorem kd_tab : ∀ k, k < 3 → (kdW k, kdF k) ∈ ftab ∧ kdW k ≠ "edit" ∧ (kdR k).length = (plainFs (kdF k)).length ∧ (∀ f ∈ plainFs (kdF k), sevF f = false) ∧ someW (kdW k :: kdR k) = true ∧ (∀ x ∈ kdW k :: kdR k, x.length ≤ 100) ∧ kdW k ≠ "both" ∧ ((kdF k).filter fun f => decide (f = ("rows" : Str))) = (["rows"] : List Str) := by decide +kernel
/-- the rows within one another -/
def nest : (m : Nat) → List Nat → List (Row m)
  | 0, _ => []
  | _ + 1, [] => []
  | m + 1, k :: ks => [(kdW k, (kdR k).map Pt.word ++ [Pt.rows (nest m ks)])]
/-- the lines of a text: two, then the nested rows -/
def NestLines (ls : List Str) (ks : List Nat) : Prop := ls.length = 2 + ks.length ∧ ∀ i k, ks[i]? = some k → k < 3 ∧ ls[2 + i]? = some (lineOf (i + 1) k)
theorem NestLines.at_ {ls : List Str} {ks : List Nat} (h : NestLines ls ks) {i k : Nat} (e : ks[i]? = some k) : lineAt ls (2 + i) = lineOf (i + 1) k := by
  unfold lineAt
  rw [List.getD_eq_getElem?_getD, (h.2 i k e).2]
  rfl
theorem NestLines.end_ {ls : List Str} {ks : List Nat} (h : NestLines ls ks) : lineAt ls (2 + ks.length) = "" := by
  unfold lineAt
  rw [List.getD_eq_getElem?_getD, List.getElem?_eq_none (by rw [h.1]; exact Nat.le_refl _)]
  rfl
end OR

set_option Elab.async false
set_option maxRecDepth 100000
set_option maxHeartbeats 8000000
set_option linter.all false
namespace OR
open PySem PySem.Spec PyProof.Rows L2 TS2
/-- read_list of nested lines, m levels left -/
def spReadList (K : PySem.W.Frag) (m : Nat) : Sp := fun vs H Q _ => ∃ (p ll dx : Addr) (ls : List Str) (ks : List Nat) (i : Nat), vs = [.ref p, .int ((i + 1 : Nat) : Int)] ∧ SrcAt K H p ll dx ls (2 + i) ∧ NestLines ls ks ∧ i ≤ ks.length ∧ i + m = 12 ∧
  ∀ (H' : Hp) (r : Addr) (xs : List V), Kp (· = p) H H' → H r = none → H' r = some (.lst xs) → All2 (RowAt K (res (fun b => H b = none) H') m) (nest m (ks.drop i)) xs → SrcAt K H' p ll dx ls (2 + min ks.length 12) → Q (.ref r) H'
def spReadInner (K : PySem.W.Frag) (m : Nat) : Sp := fun vs H Q _ => ∃ (p ll dx : Addr) (ls : List Str) (ks : List Nat) (i k : Nat), vs = [.ref p, .str (kdW k), .int ((i + 1 : Nat) : Int)] ∧ k < 3 ∧ SrcAt K H p ll dx ls (2 + (i + 1)) ∧ NestLines ls ks ∧ i + 1 ≤ ks.length ∧ i + 1 + m = 12 ∧
  ∀ (H' : Hp) (r r2 : Addr) (xs : List V), Kp (· = p) H H' → H r = none → H' r = some (.lst [.ref r2]) → H r2 = none → H' r2 = some (.lst xs) → All2 (RowAt K (res (fun b => H b = none) H') m) (nest m (ks.drop (i + 1))) xs → SrcAt K H' p ll dx ls (2 + min ks.length 12) → Q (.ref r) H'
section
variable {P : Program} {w : World} {K : PySem.W.Frag} {mg : Str → Option Value} {base : Heap}
theorem ok_read_inner {k0 m : Nat} {f : Addr} {fd : FuncData} (F : FnP K "read_inner" "read_inner" s_read_inner f fd) (T : Tx w K mg) (G_read_list : Def P w K mg base (L2.CX P w) k0 "read_list" p_read_list (spReadList K m)) : FnOk P w K mg base (L2.CX P w) (k0 + 1) f fd p_read_inner (spReadInner K m) := by
  refine F.ok sc_read_inner (fun vs H Q E h => ?_) (fun cdv A outer s H vs Q E hr h => ?_)
  · obtain ⟨p, ll, dx, ls, ks, i, k, rfl, _⟩ := h
    rfl
  · obtain ⟨p, ll, dx, ls, ks, i, k, rfl, hk, S, NL, hi, hm, kq⟩ := h
    obtain ⟨hf, ne, hl, nsv, sw, hz, nb, ef⟩ := kd_tab k hk
    obtain ⟨pF, e1, hpF⟩ := T.forms _ hf
    have f4 : (kdF k).length ≤ 4 := ftab_four _ hf
    refine ⟨_, (pss_cons (ps_set (i := 3) sc_read_inner.nd rfl (.inl rfl) (pe_callB call_len_seq (by rfl) T.b_len PySem.boot_len (pa_cons (pe_lc (own := [("form", 6)]) (g := (gName 6)) (by rfl) sc_read_inner.nd (pi_tup (pe_ix ix_kdict (pe_ref (by rfl) T.m_FORMS) (pv 1) (fun _ _ => rfl))) (blkOk_by (N := n_read_inner) (sc := defScope s_read_inner) (by decide +kernel)) (fun _ _ _ _ _ => (pg_name (i := 6) sc_read_inner.nd rfl (.inl rfl))) (fun _ _ _ _ _ => (pts_one (pt_cmpR op_eq (pv 6) pe_str (nomark _)))) (fun _ _ _ _ _ => (pv 6))) pa_nil)))
      (pss_cons (ps_if (pt_cmpR op_eq (pv 1) pe_str (nomark _)) (pss_one ps_never) pss_nil)
      (pss_cons (ps_set (i := 4) sc_read_inner.nd rfl (.inl rfl) (pe_lst pa_nil))
      (pss_cons (ps_for (passes_of rfl) rfl (pi_range1 (by rfl) T.b_range (pa_cons (pv 3) pa_nil)) (pg_name (i := 5) sc_read_inner.nd rfl (.inl rfl)) (pss_cons (ps_if (pt_cmpR op_eq (pv 5) pe_int (nomark _)) (pss_one ps_never) pss_nil)
      (pss_one (ps_expr (pe_bm PySem.F.plainAttrs_list PySem.F.slot_list_append PySem.F.type_list_append mt_append (pv 4) (pa_cons (pe_fn G_read_list (hr.mono (by omega)) (by rfl) (passes_call (W := fun c d _ H => E c d H) (takes_of rfl rfl rfl rfl) (fun _ _ _ _ h => h)) (pa_cons (pv 0) (pa_cons (pe_op op_add (pv 2) pe_int) pa_nil))) pa_nil))))))
      (pss_one (ps_ret (pv 4))))))), ?_⟩
    refine ⟨_, rfl, _, _, .ref pF, rfl, rfl, kdct T.D_FORMS e1 rfl, pF, rfl, ⟨_, hpF _⟩, fun D nD => ?_⟩
    refine lc_it (walk_tup (K := K) (a := pF) (xs := (kdF k).map V.str)) (fun j H' => Same H H' ∧ H' D = some (.lst ((((kdF k).take j).filter fun f => decide (f = ("rows" : Str))).map V.str))) ⟨Same.new nD, upd_same⟩ (fun j H' _ q => hpF _) (fun j x H2 H3 hj q y => ?_) (fun H2 q => ?_)
    · obtain ⟨rfl, hx⟩ := y
      obtain ⟨S2, hD⟩ := q
      rw [List.getElem?_map] at hx
      cases ej : (kdF k)[j]? with
      | none => rw [ej] at hx; cases hx
      | some f0 =>
        rw [ej] at hx
        cases Option.some.inj hx
        refine ⟨rfl, ?_⟩
        refine ⟨_, rfl, rfl, _, rfl, ?_⟩
        have ed : decide (V.str f0 = V.str "rows") = decide (f0 = ("rows" : Str)) := by
          congr 1
          exact propext ⟨fun z => V.str.inj z, fun z => congrArg V.str z⟩
        refine ite2 (fun c => ?_) fun c => ?_
        · rw [ed] at c
          refine ⟨_, rfl, _, hD, ?_, fun b o hb => ?_, ?_⟩
          · rw [List.length_map]
            have : (((kdF k).take j).filter fun f => decide (f = ("rows" : Str))).length ≤ ((kdF k).take j).length := List.length_filter_le _ _
            rw [List.length_take] at this
            exact small1000 (by omega)
          · rw [upd_ne (ne_of_none hb nD)]
            exact S2 _ _ hb
          · rw [upd_same, take_more ej, List.filter_append, List.filter_cons, if_pos c, List.map_append]
            rfl
        · rw [ed] at c
          refine ⟨S2, ?_⟩
          rw [take_more ej, List.filter_append, List.filter_cons, if_neg c, hD]
          simp
    · obtain ⟨S2, hD⟩ := q
      rw [List.length_map, List.take_length, ef] at hD
      refine ⟨D, _, rfl, .inl (SqL.of hD), ?_⟩
      have nD0 : H D = none := nD
      refine ⟨_, rfl, rfl, _, rfl, iteF' (by show decide (V.str (kdW k) = V.str "both") = false; exact decide_eq_false fun z => nb (V.str.inj z)) ?_⟩
      refine ⟨by show 0 ≤ sizeLine; decide, fun L nL => ?_⟩
      have SL : Same H2 (upd H2 L (.lst [])) := Same.new nL
      have hL : upd H2 L (.lst []) L = some (.lst []) := upd_same
      generalize upd H2 L (.lst []) = H3 at SL hL ⊢
      have pL : p ≠ L := ne_of_none (S2 _ _ S.ob) nL
      have S3 := S2.trans SL
      have HL : H L = none := S2.free nL
      refine ⟨_, rfl, 1, rfl, by decide, by decide, ?_⟩
      refine for_it (walk_range (lo := 0) (n := 1)) (fun j σ' H' => (∃ x y, σ' = [some (.ref p), some (.str (kdW k)), some (.int ((i + 1 : Nat) : Int)), some (.int 1), some (.ref L), x, y]) ∧ ((j = 0 ∧ H' = H3) ∨
          (j = 1 ∧ ∃ r2 xs, Kp (fun b => b = p ∨ b = L) H3 H' ∧ H' L = some (.lst [.ref r2]) ∧ H r2 = none ∧ H' r2 = some (.lst xs) ∧ All2 (RowAt K (res (fun b => H b = none) H') m) (nest m (ks.drop (i + 1))) xs ∧ SrcAt K H' p ll dx ls (2 + min ks.length 12))))
        ⟨⟨_, _, rfl⟩, .inl ⟨rfl, rfl⟩⟩ (fun _ _ _ _ _ => trivial) (fun j x σ' H4 H5 hj q y => ?_) (fun σ' H4 q => ?_)
      · obtain ⟨⟨x0, y0, rfl⟩, ⟨rfl, rfl⟩ | ⟨rfl, _⟩⟩ := q
        rotate_left
        · exact absurd hj (by decide)
        obtain ⟨rfl, rfl⟩ := y
        refine ⟨_, rfl, rfl, _, rfl, iteF' (by decide +kernel) ?_⟩
        refine ⟨_, rfl, .inl ⟨rfl, _, SqL.of hL⟩, ?_⟩
        refine ⟨_, rfl, _, rfl, _, _, rfl, rfl, ?_⟩
        refine ⟨p, ll, dx, ls, ks, i + 1, rfl, S.same S3, NL, hi, hm, fun H6 r xs kp nr hr2 hxs S6 => ?_⟩
        have Lp : L ≠ p := pL.symm
        have rL : r ≠ L := fun z => by rw [z, hL] at nr; cases nr
        refine ⟨L, _, _, rfl, rfl, kp _ _ hL Lp, by show 0 < sizeLine; decide, ?_⟩
        refine ⟨⟨_, _, rfl⟩, .inr ⟨rfl, r, xs, ?_, upd_same, S3.free nr, ?_, ?_, ?_⟩⟩
        · intro b o hb nb
          rw [upd_ne (fun z => nb (.inr z))]
          exact kp b o hb fun z => nb (.inl z)
        · rw [upd_ne rL]; exact hr2
        · refine hxs.imp fun x y _ q => RowAt.mono (same_res fun b u c e => ⟨S3.free c, ?_⟩) q
          rw [upd_ne (fun z => by rw [z, hL] at c; cases c)]
          exact e
        · exact ⟨by rw [upd_ne pL]; exact S6.ob, by rw [upd_ne (ne_of_none S.l HL)]; exact S6.l, S6.z⟩
      · obtain ⟨⟨x0, y0, rfl⟩, ⟨h, _⟩ | ⟨_, r2, xs, kp, h4, nr2, hr2, hxs, S4⟩⟩ := q
        · exact absurd h (by decide)
        refine ⟨_, rfl, ?_⟩
        exact kq H4 L r2 xs (fun b o hb nb => kp b o (S3 b o hb) (by rintro (z | z); exact nb z; rw [z, HL] at hb; cases hb)) HL h4 nr2 hr2 hxs S4
end
end OR

set_option Elab.async false
set_option maxRecDepth 100000
set_option maxHeartbeats 8000000
set_option linter.all false
namespace OR
open PySem PySem.Spec PyProof.Rows L2 TS2
theorem NestLines.ends {ls : List Str} {ks : List Nat} (NL : NestLines ls ks) {i : Nat} (h : ks.length ≤ i) (h2 : i ≤ ks.length) : atB (lineAt ls (2 + i)) ((i + 1 : Nat) : Int) = false := by
  have e : i = ks.length := by omega
  subst e
  rw [NL.end_]
  exact atB_end (by omega)
/-- behind the rows read: no line of this level -/
theorem NestLines.over {ls : List Str} {ks : List Nat} (NL : NestLines ls ks) {i : Nat} (h : i < ks.length) (h12 : i < 12) : atB (lineAt ls (2 + min ks.length 12)) ((i + 1 : Nat) : Int) = false := by
  by_cases c : ks.length ≤ 12
  · rw [Nat.min_eq_left c, NL.end_]
    exact atB_end (by omega)
  · rw [Nat.min_eq_right (by omega)]
    have h13 : 12 < ks.length := by omega
    have e : ks[12]? = some ks[12] := List.getElem?_eq_getElem h13
    rw [NL.at_ e, line_at 13 (by omega) (i + 1) (by omega) _ (NL.2 _ _ e).1]
    exact decide_eq_false (by omega)
section
variable {P : Program} {w : World} {K : PySem.W.Frag} {mg : Str → Option Value} {base : Heap}
theorem ok_read_list0 {f : Addr} {fd : FuncData} (F : FnP K "read_list" "read_list" s_read_list f fd) (T : Tx w K mg) (M_is_at : MDef P w K mg base CX0 2 (He.ga K "Source") "is_at" p_Source_is_at (spIsAt K)) : FnOk P w K mg base (L2.CX P w) 3 f fd p_read_list (spReadList K 0) := by
  refine F.ok sc_read_list (fun vs H Q E h => ?_) (fun cdv A outer s H vs Q E hr h => ?_)
  · obtain ⟨p, ll, dx, ls, ks, i, rfl, _⟩ := h
    rfl
  · obtain ⟨p, ll, dx, ls, ks, i, rfl, S, NL, hi, hm, kq⟩ := h
    refine ⟨_, (pss_cons (ps_set (i := 2) sc_read_list.nd rfl (.inl rfl) (pe_lst pa_nil)) (pss_cons (ps_while (passes_of rfl) (pt_val (pe_mth M_is_at (hr.mono (by omega)) pass0 (pv 0) (pa_cons (pv 1) pa_nil))) pss_never) (pss_one (ps_ret (pv 2))))), ?_⟩
    refine ⟨by show 0 ≤ sizeLine; decide, fun L nL => ?_⟩
    refine ⟨fun m σ H' => m = 0 ∧ σ = [some (.ref p), some (.int ((i + 1 : Nat) : Int)), some (.ref L), none] ∧ H' = upd H L (.lst []), ⟨0, rfl, rfl, rfl⟩, ?_⟩
    rintro m σ H' ⟨rfl, rfl, rfl⟩
    have SL : Same H (upd H L (.lst [])) := Same.new nL
    have S1 := S.same SL
    refine ⟨_, rfl, p, dx, _, rfl, S1.ob, rfl, _, rfl, ?_⟩
    refine ⟨p, ll, dx, ls, 2 + i, _, rfl, S1, by omega, by omega, ?_⟩
    rw [atB_13 _ (by omega)]
    refine ⟨_, rfl, iteF ?_⟩
    refine ⟨_, rfl, ?_⟩
    have e12 : min ks.length 12 = i := by omega
    refine kq _ L [] (Kp.of SL) nL upd_same ?_ (by rw [e12]; exact S1)
    exact .nil
theorem ok_read_list {k0 m : Nat} {f : Addr} {fd : FuncData} (F : FnP K "read_list" "read_list" s_read_list f fd) (T : Tx w K mg) (h3 : 3 ≤ k0) (M_is_at : MDef P w K mg base CX0 2 (He.ga K "Source") "is_at" p_Source_is_at (spIsAt K))
    (M_next_words : MDef P w K mg base CX0 2 (He.ga K "Source") "next_words" p_Source_next_words (spNextWords K)) (M_go_on : MDef P w K mg base (L2.CX P w) 3 (He.ga K "Source") "go_on" p_Source_go_on (spGoOn K))
    (G_parts_of : Def P w K mg base CX0 3 "parts_of" p_parts_of (spPartsOf K)) (G_read_inner : Def P w K mg base (L2.CX P w) k0 "read_inner" p_read_inner (spReadInner K m)) : FnOk P w K mg base (L2.CX P w) (k0 + 1) f fd p_read_list (spReadList K (m + 1)) := by
  refine F.ok sc_read_list (fun vs H Q E h => ?_) (fun cdv A outer s H vs Q E hr h => ?_)
  · obtain ⟨p, ll, dx, ls, ks, i, rfl, _⟩ := h
    rfl
  · obtain ⟨p, ll, dx, ls, ks, i, rfl, S, NL, hi, hm, kq⟩ := h
    refine ⟨_, (pss_cons (ps_set (i := 2) sc_read_list.nd rfl (.inl rfl) (pe_lst pa_nil))
      (pss_cons (ps_while (passes_of rfl) (pt_val (pe_mth M_is_at (hr.mono (by omega)) pass0 (pv 0) (pa_cons (pv 1) pa_nil))) (pss_cons (ps_set (i := 3) sc_read_list.nd rfl (.inl rfl) (pe_fn G_parts_of (hr.mono (by omega)) (by rfl) pass0 (pa_cons (pe_mth0 M_next_words (hr.mono (by omega)) pass0 (pv 0)) pa_nil)))
      (pss_cons (ps_expr (pe_mth M_go_on (hr.mono (by omega)) (passes_call (W := fun c d _ H => E c d H) (takes_of rfl rfl rfl rfl) (fun _ _ _ _ h => h)) (pv 0) (pa_cons (pe_cmpR op_gt (pe_callB call_len_seq (by rfl) T.b_len PySem.boot_len (pa_cons (pv 3) pa_nil)) pe_int (nomark _)) pa_nil)))
      (pss_one (ps_expr (pe_bm PySem.F.plainAttrs_list PySem.F.slot_list_append PySem.F.type_list_append mt_append (pv 2) (pa_cons (pe_callTy call_tuple_of (by rfl) T.b_tuple (by decide +kernel) (pa_cons (pe_op op_cat (pv 3) (pe_fn G_read_inner (hr.mono (by omega)) (by rfl) (passes_call (W := fun c d _ H => E c d H) (takes_of rfl rfl rfl rfl) (fun _ _ _ _ h => h)) (pa_cons (pv 0) (pa_cons (pe_ix ix_list (pv 3) pe_int (fun _ _ => rfl)) (pa_cons (pv 1) pa_nil))))) pa_nil)) pa_nil)))))))
      (pss_one (ps_ret (pv 2))))), ?_⟩
    refine ⟨by show 0 ≤ sizeLine; decide, fun L nL => ?_⟩
    have SL : Same H (upd H L (.lst [])) := Same.new nL
    have S1 := S.same SL
    have hL : upd H L (.lst []) L = some (.lst []) := upd_same
    generalize upd H L (.lst []) = H1 at SL S1 hL ⊢
    have pL : p ≠ L := ne_of_none S.ob nL
    have lL : ll ≠ L := ne_of_none S.l nL
    refine ⟨fun n σ H' => (n = 1 ∧ σ = [some (.ref p), some (.int ((i + 1 : Nat) : Int)), some (.ref L), none] ∧ H' = H1) ∨
      (n = 0 ∧ (∃ y, σ = [some (.ref p), some (.int ((i + 1 : Nat) : Int)), some (.ref L), y]) ∧ i < ks.length ∧ Kp (fun b => b = p ∨ b = L) H1 H' ∧ SrcAt K H' p ll dx ls (2 + min ks.length 12) ∧
        ∃ xs, H' L = some (.lst xs) ∧ All2 (RowAt K (res (fun b => H b = none) H') (m + 1)) (nest (m + 1) (ks.drop i)) xs), ⟨1, .inl ⟨rfl, rfl, rfl⟩⟩, ?_⟩
    rintro n σ H1 (⟨rfl, rfl, rfl⟩ | ⟨rfl, ⟨y, rfl⟩, hik, kp, S4, xs, hx, hxs⟩)
    · refine ⟨_, rfl, p, dx, _, rfl, S1.ob, rfl, _, rfl, ?_⟩
      refine ⟨p, ll, dx, ls, 2 + i, _, rfl, S1, by omega, by omega, ?_⟩
      by_cases hik : i < ks.length
      · have ek : ks[i]? = some ks[i] := List.getElem?_eq_getElem hik
        have k3 := (NL.2 _ _ ek).1
        obtain ⟨hf, ne, hl, nsv, sw, hz, nb, ef⟩ := kd_tab _ k3
        rw [NL.at_ ek, line_at (i + 1) (by omega) (i + 1) (by omega) _ k3, decide_eq_true rfl]
        refine ⟨_, rfl, iteT ?_⟩
        have wd := line_words (i + 1) (by omega) _ k3
        refine ⟨fun σ' H' => (∃ y, σ' = [some (.ref p), some (.int ((i + 1 : Nat) : Int)), some (.ref L), y]) ∧ i < ks.length ∧ Kp (fun b => b = p ∨ b = L) H1 H' ∧ SrcAt K H' p ll dx ls (2 + min ks.length 12) ∧
          ∃ xs, H' L = some (.lst xs) ∧ All2 (RowAt K (res (fun b => H b = none) H') (m + 1)) (nest (m + 1) (ks.drop i)) xs, fun σ' H' q => ⟨0, by decide, .inr ⟨rfl, q⟩⟩, ?_⟩
        refine ⟨_, rfl, p, dx, _, rfl, S1.ob, rfl, ?_⟩
        refine ⟨p, ll, dx, ls, _, rfl, S1, fun r1 H2 S12 nr1 hr1 => ?_⟩
        rw [NL.at_ ek, wd] at hr1
        refine ⟨r1, _, _, _, rfl, hr1, sw, fun x hx => Nat.le_of_lt (small1000 (Nat.le_trans (hz x hx) (by decide))), hf, ne, hl, nsv, fun D H3 S23 nD hD => ?_⟩
        have S3 := (S1.same S12).same S23
        have S13 := S12.trans S23
        have H1D : H1 D = none := S12.free nD
        have LD : L ≠ D := fun z => by rw [← z, S12 _ _ hL] at nD; cases nD
        refine ⟨_, rfl, p, dx, _, rfl, S3.ob, rfl, _, rfl, D, _, rfl, .inl (SqL.of hD), _, _, rfl, rfl, ?_⟩
        refine ⟨p, ll, dx, ls, 2 + i, _, rfl, S3, by omega, fun _ => ?_, fun h => ?_⟩
        rotate_left
        · exfalso
          have : ¬ ((0 : Int) < (((kdW ks[i] :: kdR ks[i]).map V.str).length : Int)) := of_decide_eq_false h
          rw [List.length_map, List.length_cons] at this
          omega
        have pD : p ≠ D := ne_of_none (S1.same S12).ob nD
        have lD : ll ≠ D := ne_of_none (S1.same S12).l nD
        have pl : p ≠ ll := fun z => by have := S3.ob; rw [z, S3.l] at this; cases this
        have S5 : SrcAt K (upd H3 p (.ins (He.ga K "Source") dx [("lines", .ref ll), ("lines_read", .int ((2 + i + 1 : Nat) : Int))])) p ll dx ls (2 + (i + 1)) := ⟨upd_same, by rw [upd_ne pl.symm]; exact S3.l, S3.z⟩
        have k35 : Kp (fun b => b = p ∨ b = L) H1 (upd H3 p (.ins (He.ga K "Source") dx [("lines", .ref ll), ("lines_read", .int ((2 + i + 1 : Nat) : Int))])) := (Kp.of S13).trans (Kp.put (.inl rfl))
        have hD5 : upd H3 p (.ins (He.ga K "Source") dx [("lines", .ref ll), ("lines_read", .int ((2 + i + 1 : Nat) : Int))]) D = some (.lst ((kdW ks[i] :: kdR ks[i]).map V.str)) := by rw [upd_ne pD.symm]; exact hD
        have hL5 : upd H3 p (.ins (He.ga K "Source") dx [("lines", .ref ll), ("lines_read", .int ((2 + i + 1 : Nat) : Int))]) L = some (.lst []) := by rw [upd_ne pL.symm]; exact S13 _ _ hL
        generalize upd H3 p (.ins (He.ga K "Source") dx [("lines", .ref ll), ("lines_read", .int ((2 + i + 1 : Nat) : Int))]) = H5 at S5 k35 hD5 hL5 ⊢
        refine ⟨_, rfl, .inl ⟨rfl, _, SqL.of hL5⟩, ?_⟩
        refine ⟨_, rfl, _, rfl, _, rfl, D, _, _, .str (kdW ks[i]), rfl, rfl, SqL.of hD5, at0', _, rfl, ?_⟩
        refine ⟨p, ll, dx, ls, ks, i, ks[i], rfl, k3, S5, NL, hik, by omega, fun H6 r r2 ys kp6 nr hr nr2 hr2 hys S6 => ?_⟩
        have H1L : H1 L = some (.lst []) := hL
        have Dp : D ≠ p := pD.symm
        have hD6 := kp6 _ _ hD5 Dp
        refine ⟨D, r, _, _, rfl, rfl, hD6, hr, ?_, fun c nc => ?_⟩
        · rw [List.length_map, List.length_cons, hl]
          have := filter_le4 hf
          rw [sizeLine_eq]
          show _ + 1 ≤ _
          omega
        refine ⟨c, _, rfl, .inl ⟨SqL.of upd_same, fun t nt => ?_⟩⟩
        have Sc : Same H6 (upd H6 c (.lst ((kdW ks[i] :: kdR ks[i]).map V.str ++ [.ref r2]))) := Same.new nc
        generalize upd H6 c (.lst ((kdW ks[i] :: kdR ks[i]).map V.str ++ [.ref r2])) = H7 at Sc nt ⊢
        have hL6 : H6 L = some (.lst []) := kp6 _ _ hL5 pL.symm
        have hL7 := Sc _ _ hL6
        have tL : t ≠ L := fun z => by rw [z, hL7] at nt; cases nt
        refine ⟨L, [], _, rfl, rfl, by rw [upd_ne tL.symm]; exact hL7, by show 0 < sizeLine; decide, ?_⟩
        have St := Sc.trans (Same.new (o := .tup ((kdW ks[i] :: kdR ks[i]).map V.str ++ [.ref r2])) nt)
        have ht : upd H7 t (.tup ((kdW ks[i] :: kdR ks[i]).map V.str ++ [.ref r2])) t = some (.tup ((kdW ks[i] :: kdR ks[i]).map V.str ++ [.ref r2])) := upd_same
        have free : ∀ {b : Addr}, H6 b = none → b ≠ p → b ≠ L → H b = none := fun {b} e np nl => by
          cases q : H b with
          | none => rfl
          | some o =>
            have := kp6 _ _ (k35 _ _ (SL _ _ q) (by rintro (z | z); exact np z; exact nl z)) np
            rw [e] at this
            cases this
        have H6t : H6 t = none := Sc.free nt
        have H0t : H t = none := free H6t (fun z => by rw [z, S6.ob] at H6t; cases H6t) tL
        generalize upd H7 t (.tup ((kdW ks[i] :: kdR ks[i]).map V.str ++ [.ref r2])) = H8 at St ht ⊢
        have f5 : ∀ {b : Addr}, H5 b = none → b ≠ L ∧ H b = none := fun {b} e => by
          have nl : b ≠ L := fun z => by rw [z, hL5] at e; cases e
          have np : b ≠ p := fun z => by rw [z, S5.ob] at e; cases e
          refine ⟨nl, ?_⟩
          cases q : H b with
          | none => rfl
          | some o =>
            have := k35 _ _ (SL _ _ q) (by rintro (z | z); exact np z; exact nl z)
            rw [e] at this
            cases this
        refine ⟨⟨_, rfl⟩, hik, ?_, ?_, _, upd_same, ?_⟩
        · refine fun b o hb nb => ?_
          rw [upd_ne (fun z => nb (.inr z))]
          exact St _ _ (kp6 b o (k35 b o hb nb) (fun z => nb (.inl z)))
        · exact ⟨by rw [upd_ne pL]; exact St _ _ S6.ob, by rw [upd_ne lL]; exact St _ _ S6.l, S6.z⟩
        · have ed : ks.drop i = ks[i] :: ks.drop (i + 1) := List.drop_eq_getElem_cons hik
          rw [ed]
          show All2 _ [(kdW ks[i], (kdR ks[i]).map Pt.word ++ [Pt.rows (nest m (ks.drop (i + 1)))])] _
          refine All2.one ⟨t, (kdR ks[i]).map V.str ++ [.ref r2], rfl, .inl (.inl ?_), ?_⟩
          · rw [res_of (S := fun b => H b = none) H0t, upd_ne tL]
            exact ht
          · refine All2.app ?_ (All2.one ⟨r2, ys, rfl, ?_, ?_⟩)
            · induction kdR ks[i] with
              | nil => exact .nil
              | cons x r ih => exact .cons rfl ih
            · obtain ⟨n1, n2⟩ := f5 nr2
              rw [res_of (S := fun b => H b = none) n2, upd_ne n1]
              exact St _ _ hr2
            · refine hys.imp fun x y _ q => RowAt.mono (same_res fun b u c e => ?_) q
              obtain ⟨n1, n2⟩ := f5 c
              exact ⟨n2, by rw [upd_ne n1]; exact St _ _ e⟩
      · rw [NL.ends (by omega) hi]
        refine ⟨_, rfl, iteF ?_⟩
        refine ⟨_, rfl, ?_⟩
        have e12 : min ks.length 12 = i := by omega
        refine kq _ L [] (Kp.of SL) nL hL ?_ (by rw [e12]; exact S1)
        have e : ks.drop i = [] := List.drop_eq_nil_of_le (by omega)
        rw [e]
        exact .nil
    · refine ⟨_, rfl, p, dx, _, rfl, S4.ob, rfl, _, rfl, ?_⟩
      refine ⟨p, ll, dx, ls, _, _, rfl, S4, by omega, by omega, ?_⟩
      rw [NL.over hik (by omega)]
      refine ⟨_, rfl, iteF ?_⟩
      refine ⟨_, rfl, ?_⟩
      refine kq _ L xs (fun b o hb nb => kp b o (SL b o hb) ?_) nL hx hxs S4
      rintro (z | z)
      · exact nb z
      · rw [z, nL] at hb; cases hb
end
end OR

set_option Elab.async false
set_option maxRecDepth 100000
set_option maxHeartbeats 4000000
set_option linter.all false
namespace OR
open PySem PySem.Spec PyProof.Rows L2 TS2
/-! ### what nested rows are refused with -/
def kdP {R : Type} (k : Nat) (X : List R) : List (Pt R) := (kdR k).map Pt.word ++ [Pt.rows X]
theorem kd_form {R : Type} (X : List R) : ∀ k, k < 3 → hasForm false [] [] (kdW k) (fsOf (kdW k)) (kdP k X) = true
  | 0, _ => by rfl
  | 1, _ => by rfl
  | 2, _ => by rfl
  | k + 3, h => absurd h (by omega)
theorem kd_kids {R : Type} (X : List R) : ∀ k, k < 3 → kids (kdP k X) = [X]
  | 0, _ => by rfl
  | 1, _ => by rfl
  | 2, _ => by rfl
  | k + 3, h => absurd h (by omega)
theorem kd_new {R : Type} (X : List R) (b : List (Key × V)) : ∀ k, k < 3 → (isNew (fsOf (kdW k)) (kdP k X) ([], b)).1 = true ∧ (isNew (fsOf (kdW k)) (kdP k X) ([], b)).2.1 = []
  | 0, _ => ⟨by rfl, by rfl⟩
  | 1, _ => ⟨by rfl, by rfl⟩
  | 2, _ => ⟨by rfl, by rfl⟩
  | k + 3, h => absurd h (by omega)
theorem kd_leave : ∀ k, k < 3 → (kdW k = "leave") = False := fun k h => by
  have : kdW k ≠ "leave" := by
    revert k
    decide +kernel
  exact eq_false this
theorem kd_words : ∀ k, k < 3 → (kdW k, fsOf (kdW k)) ∈ ftab ∧ (∀ z ∈ kdR k, z.length ≤ 1000) ∧ (kdR k).length ≤ 1 := by decide +kernel
theorem kd_nice {R : Type} (X : List R) : ∀ k, k < 3 → (∀ x ∈ (fsOf (kdW k)).zip (kdP k X), Nice x.1 x.2)
  | 0, _ => fun x hx => by
    have e : (fsOf (kdW 0)).zip (kdP 0 X) = [(("rows" : Str), Pt.rows X)] := by rfl
    rw [e] at hx
    cases List.mem_singleton.mp hx
    exact ⟨fun z hz => (by cases hz), by show 0 ≤ 100; decide, by show 1 ≤ 100; decide, fun _ ls z => (by cases z), fun _ l z => (by cases z)⟩
  | 1, _ => fun x hx => by
    have e : (fsOf (kdW 1)).zip (kdP 1 X) = [(("rows" : Str), Pt.rows X)] := by rfl
    rw [e] at hx
    cases List.mem_singleton.mp hx
    exact ⟨fun z hz => (by cases hz), by show 0 ≤ 100; decide, by show 1 ≤ 100; decide, fun _ ls z => (by cases z), fun _ l z => (by cases z)⟩
  | 2, _ => fun x hx => by
    have e : (fsOf (kdW 2)).zip (kdP 2 X) = [(("gate" : Str), Pt.word ("g" : Str)), (("rows" : Str), Pt.rows X)] := by rfl
    rw [e] at hx
    rcases List.mem_cons.mp hx with rfl | hx
    · refine ⟨fun z hz => ?_, by show 1 ≤ 100; decide, by show 0 ≤ 100; decide, fun _ ls z => (by cases z), fun _ l z => (by cases z)⟩
      cases List.mem_singleton.mp hz
      decide +kernel
    · cases List.mem_singleton.mp hx
      exact ⟨fun z hz => (by cases hz), by show 0 ≤ 100; decide, by show 1 ≤ 100; decide, fun _ ls z => (by cases z), fun _ l z => (by cases z)⟩
  | k + 3, h => absurd h (by omega)
theorem kd_named {R : Type} (which : List Str) (X : List R) : ∀ k, k < 3 → (named which (fsOf (kdW k)) (kdP k X)).length ≤ 1 ∧ (("gate" : Str) ∉ which → named which (fsOf (kdW k)) (kdP k X) = [])
  | 0, _ => by
    have e : (fsOf (kdW 0)).zip (kdP 0 X) = [(("rows" : Str), Pt.rows X)] := by rfl
    unfold named
    rw [e]
    simp only [List.map_cons, List.map_nil]
    split <;> simp [wordsP]
  | 1, _ => by
    have e : (fsOf (kdW 1)).zip (kdP 1 X) = [(("rows" : Str), Pt.rows X)] := by rfl
    unfold named
    rw [e]
    simp only [List.map_cons, List.map_nil]
    split <;> simp [wordsP]
  | 2, _ => by
    have e : (fsOf (kdW 2)).zip (kdP 2 X) = [(("gate" : Str), Pt.word ("g" : Str)), (("rows" : Str), Pt.rows X)] := by rfl
    unfold named
    rw [e]
    simp only [List.map_cons, List.map_nil]
    refine ⟨?_, fun h => ?_⟩
    · split <;> split <;> simp [wordsP]
    · rw [if_neg h]
      split <;> simp [wordsP]
  | k + 3, h => absurd h (by omega)
theorem seq_one {α : Type} {f : α → List Int → Sn → Option (List Int) × Sn} {pre : List Int} {x : α} {st : Sn} : (seqChk f pre [x] 0 st).1 = (f x (pre ++ [0]) st).1 := by
  unfold seqChk
  have e : pre ++ [((0 : Nat) : Int)] = pre ++ [0] := rfl
  rw [e]
  cases f x (pre ++ [0]) st with
  | mk o st' => cases o <;> rfl
theorem rep_two (j : Nat) : (List.replicate (2 * j) (0 : Int) ++ [0]) ++ [0] = List.replicate (2 * (j + 1)) 0 := by
  have e : 2 * (j + 1) = 2 * j + 1 + 1 := by omega
  rw [e, List.replicate_succ', List.replicate_succ']
theorem chk_nest : ∀ (m : Nat) (ks : List Nat) (j : Nat) (il : Bool) (b : List (Key × V)), (∀ k ∈ ks, k < 3) → j ≤ 4 → (chk false [] [] m il (nest m ks) (List.replicate (2 * j) 0) ([], b)).1 = if 5 ≤ j + min ks.length m then some (List.replicate 9 0) else none
  | 0, ks, j, il, b, h, hj => by
    rw [if_neg (by omega)]
    rfl
  | m + 1, [], j, il, b, h, hj => by
    rw [if_neg (by simp; omega)]
    rfl
  | m + 1, k :: ks, j, il, b, h, hj => by
    have k3 := h k List.mem_cons_self
    show (seqChk (oneChk false [] [] (chk false [] [] m) il) (List.replicate (2 * j) 0) [(kdW k, kdP k (nest m ks))] 0 ([], b)).1 = _
    rw [seq_one]
    unfold oneChk
    simp only [kd_form _ k k3, kd_kids _ k k3, (kd_new _ b k k3).1, Bool.true_and, if_true]
    have em : mayS (kdW k) (List.replicate (2 * j) (0 : Int) ++ [0]).length il [nest m ks].length = decide (j < 4) := by
      unfold mayS
      simp only [kd_leave k k3, if_false, List.length_append, List.length_replicate, List.length_cons, List.length_nil]
      rw [decide_eq_false (p := 0 + 1 = 0) (by omega), Bool.or_false]
      congr 1
      exact propext ⟨fun z => by omega, fun z => by omega⟩
    rw [em]
    by_cases c : j < 4
    · rw [decide_eq_true c, if_pos rfl, seq_one, rep_two]
      have es : (isNew (fsOf (kdW k)) (kdP k (nest m ks)) ([], b)).2 = ([], (isNew (fsOf (kdW k)) (kdP k (nest m ks)) ([], b)).2.2) := Prod.ext (kd_new _ b k k3).2 rfl
      rw [es, chk_nest m ks (j + 1) _ _ (fun x hx => h x (List.mem_cons_of_mem _ hx)) (by omega)]
      have e : j + 1 + min ks.length m = j + min (k :: ks).length (m + 1) := by rw [List.length_cons]; omega
      rw [e]
    · have e4 : j = 4 := by omega
      subst e4
      rw [decide_eq_false c, if_neg (by simp), if_pos (by rw [List.length_cons]; omega)]
      rfl
theorem lsz_nest : ∀ (m : Nat) (ks : List Nat), (∀ k ∈ ks, k < 3) → lsz m (nest m ks) = min ks.length m
  | 0, ks, h => by show 0 = _; omega
  | m + 1, [], h => by show 0 = _; simp
  | m + 1, k :: ks, h => by
    have k3 := h k List.mem_cons_self
    show lsz (m + 1) [(kdW k, kdP k (nest m ks))] = _
    have e : lsz (m + 1) [(kdW k, kdP k (nest m ks))] = 1 + ((kids (kdP k (nest m ks))).map (lsz m)).sum := by
      show [rsz (m + 1) (kdW k, kdP k (nest m ks))].sum = _
      simp
      rfl
    rw [e, kd_kids _ k k3]
    have ih := lsz_nest m ks fun x hx => h x (List.mem_cons_of_mem _ hx)
    simp [ih]
    omega
theorem flat_nest : ∀ (m : Nat) (ks : List Nat), (∀ k ∈ ks, k < 3) → ∀ x ∈ flatL m (nest m ks), ∃ k X, k < 3 ∧ x.2 = (kdW k, kdP k X)
  | 0, ks, h, x, hx => by cases hx
  | m + 1, [], h, x, hx => by cases hx
  | m + 1, k :: ks, h, x, hx => by
    have k3 := h k List.mem_cons_self
    have e : flatL (m + 1) (nest (m + 1) (k :: ks)) = ⟨m, (kdW k, kdP k (nest m ks))⟩ :: ((kids (kdP k (nest m ks))).map (flatL m)).flatten := by
      show flatR (m + 1) (kdW k, kdP k (nest m ks)) ++ [] = _
      rw [List.append_nil]
      rfl
    rw [e, kd_kids _ k k3] at hx
    rcases List.mem_cons.mp hx with rfl | hx
    · exact ⟨k, nest m ks, k3, rfl⟩
    · simp at hx
      exact flat_nest m ks (fun x hx => h x (List.mem_cons_of_mem _ hx)) x hx
theorem names_nest (which : List Str) : ∀ fl : List AnyRow, (∀ x ∈ fl, ∃ k X, k < 3 ∧ x.2 = (kdW k, kdP k X)) → (namesAll which fl).length ≤ fl.length ∧ (("gate" : Str) ∉ which → namesAll which fl = [])
  | [], _ => ⟨Nat.le_refl _, fun _ => rfl⟩
  | x :: fl, h => by
    obtain ⟨k, X, k3, e⟩ := h x List.mem_cons_self
    obtain ⟨i1, i2⟩ := names_nest which fl fun y hy => h y (List.mem_cons_of_mem _ hy)
    obtain ⟨n1, n2⟩ := kd_named which X k k3
    have en : namesAll which (x :: fl) = named which (fsOf (kdW k)) (kdP k X) ++ namesAll which fl := by
      show (([x] ++ fl).map _).flatten = _
      simp only [List.singleton_append, List.map_cons, List.flatten_cons, e]
      rfl
    rw [en]
    refine ⟨?_, fun g => ?_⟩
    · rw [List.length_append, List.length_cons]; omega
    · rw [n2 g, i2 g]; rfl
theorem pre_nest : ∀ (m : Nat) (ks : List Nat), (∀ k ∈ ks, k < 3) → (nest m ks).length ≤ 1 ∧ ∀ x ∈ nest m ks, Pre m x
  | 0, ks, h => ⟨by show 0 ≤ 1; decide, fun x hx => by cases hx⟩
  | m + 1, [], h => ⟨by show 0 ≤ 1; decide, fun x hx => by cases hx⟩
  | m + 1, k :: ks, h => by
    have k3 := h k List.mem_cons_self
    obtain ⟨i1, i2⟩ := pre_nest m ks fun x hx => h x (List.mem_cons_of_mem _ hx)
    refine ⟨Nat.le_refl _, fun x hx => ?_⟩
    have e : x = (kdW k, kdP k (nest m ks)) := List.mem_singleton.mp hx
    subst e
    obtain ⟨w1, w2, w3⟩ := kd_words k k3
    refine ⟨w1, kd_nice _ k k3, ?_, ?_, fun l hl => ?_⟩
    · show (kdP k (nest m ks)).length ≤ 1000
      unfold kdP
      rw [List.length_append, List.length_map, List.length_singleton]
      omega
    · show (kids (kdP k (nest m ks))).length ≤ 1000
      rw [kd_kids _ k k3]
      show 1 ≤ 1000
      decide
    · have hl : l ∈ kids (kdP k (nest m ks)) := hl
      rw [kd_kids _ k k3] at hl
      cases List.mem_singleton.mp hl
      exact ⟨by omega, i2⟩
theorem out_nest (ks : List Nat) (h : ∀ k ∈ ks, k < 3) (h12 : ks.length ≤ 12) : outcome false (some []) (some []) true 12 (some (nest 12 ks)) = if 5 ≤ ks.length then some (("rows" : Str), List.replicate 9 (0 : Int)) else none := by
  have e := chk_nest 12 ks 0 false [] h (by omega)
  have e0 : List.replicate (2 * 0) (0 : Int) = [] := rfl
  rw [e0, Nat.min_eq_left h12, Nat.zero_add] at e
  unfold outcome
  simp only [if_true, e]
  by_cases c : 5 ≤ ks.length
  · rw [if_pos c, if_pos c]
  · rw [if_neg c, if_neg c]
    have hl := lsz_nest 12 ks h
    have hf := names_nest ["label", "labels"] (flatL 12 (nest 12 ks)) (flat_nest 12 ks h)
    have hs := names_nest ["slot", "source"] (flatL 12 (nest 12 ks)) (flat_nest 12 ks h)
    have hg := names_nest ["gate", "edit"] (flatL 12 (nest 12 ks)) (flat_nest 12 ks h)
    have e1 : labelsN 12 (nest 12 ks) = 0 := by
      unfold labelsN
      rw [hf.2 (by decide +kernel)]
      rfl
    have e2 : slotsN 12 (nest 12 ks) = 0 := by
      unfold slotsN
      rw [hs.2 (by decide +kernel)]
      rfl
    have e3 : gatesN 12 (nest 12 ks) ≤ 4 := by
      unfold gatesN
      have := uniq_le (namesAll ["gate", "edit"] (flatL 12 (nest 12 ks)))
      have h1 := hg.1
      rw [flatL_len] at h1
      omega
    have ef : fault4 (lsz 12 (nest 12 ks)) (labelsN 12 (nest 12 ks)) (slotsN 12 (nest 12 ks)) (gatesN 12 (nest 12 ks)) = none := by
      unfold fault4
      rw [if_neg (by omega), if_neg (by omega), if_neg (by omega), if_neg (by omega)]
    simp only [ef]
    rfl
theorem args_nest {K : PySem.W.Frag} {H0 : Hp} {r : Addr} {xs : List V} {ks : List Nat} (h : ∀ k ∈ ks, k < 3) (hr : H0 r = some (.lst xs)) (ha : All2 (RowAt K H0 12) (nest 12 ks) xs) : RowsArg K H0 12 (.ref r) (some (nest 12 ks)) := by
  have hl := lsz_nest 12 ks h
  have hp := pre_nest 12 ks h
  refine .good hr ha hp.2 (by omega) (by omega) fun which => ?_
  have h1 := (names_nest which (flatL 12 (nest 12 ks)) (flat_nest 12 ks h)).1
  rw [flatL_len] at h1
  omega
end OR

set_option Elab.async false
set_option maxRecDepth 100000
set_option maxHeartbeats 8000000
set_option linter.all false
namespace OR
open PySem PySem.Spec PyProof.Rows L2 TS2
/-- read_table at a line that is of another kind -/
def spReadTable (K : PySem.W.Frag) : Sp := fun vs H Q _ => ∃ (p ll dx : Addr) (ls : List Str) (n : Nat) (kd w0 : Str) (r : List Str), vs = [.ref p, .str kd] ∧ SrcAt K H p ll dx ls n ∧ atB (lineAt ls n) 0 = true ∧ wordsAt (lineAt ls n) = w0 :: r ∧ w0 ≠ kd ∧
  ∀ (D : Addr) (H' : Hp), Same H H' → H D = none → H' D = some (.dK []) → Q (.ref D) H'
section
variable {P : Program} {w : World} {K : PySem.W.Frag} {mg : Str → Option Value} {base : Heap}
theorem ok_read_table {f : Addr} {fd : FuncData} (F : FnP K "read_table" "read_table" s_read_table f fd) (T : Tx w K mg) (M_is_at : MDef P w K mg base CX0 2 (He.ga K "Source") "is_at" p_Source_is_at (spIsAt K))
    (M_next_words : MDef P w K mg base CX0 2 (He.ga K "Source") "next_words" p_Source_next_words (spNextWords K)) : FnOk P w K mg base (L2.CX P w) 3 f fd p_read_table (spReadTable K) := by
  refine F.ok sc_read_table (fun vs H Q E h => ?_) (fun cdv A outer s H vs Q E hr h => ?_)
  · obtain ⟨p, ll, dx, ls, n, kd, w0, r, rfl, _⟩ := h
    rfl
  · obtain ⟨p, ll, dx, ls, n, kd, w0, r, rfl, S, ha, hw, ne, kq⟩ := h
    refine ⟨_, (pss_cons (ps_set (i := 2) sc_read_table.nd rfl (.inl rfl) pe_dnewK)
      (pss_cons (ps_set (i := 3) sc_read_table.nd rfl (.inl rfl) pe_str)
      (pss_cons (ps_while (passes_of rfl) (PW.pt (pw_and (pt_val (pe_mth M_is_at (hr.mono (by omega)) pass0 (pv 0) (pa_cons pe_int pa_nil))) (pw_and1 (pt_cmpR op_eq (pe_ix ix_list (pe_mth0 M_next_words (hr.mono (by omega)) pass0 (pv 0)) pe_int (fun _ _ => rfl)) (pv 1) (nomark _))))) (pss_cons ps_never
      (pss_cons ps_never
      (pss_cons ps_never
      (pss_cons ps_never
      (pss_cons ps_never
      (pss_one ps_never)))))))
      (pss_one (ps_ret (pv 2)))))), ?_⟩
    intro D nD
    have SD : Same H (upd H D (.dK [])) := Same.new nD
    have hD : upd H D (.dK []) D = some (.dK []) := upd_same
    generalize upd H D (.dK []) = H1 at SD hD ⊢
    have S1 := S.same SD
    refine ⟨fun m σ H' => m = 0 ∧ H' = H1 ∧ σ = [some (.ref p), some (.str kd), some (.ref D), some (.str ""), none, none, none], ⟨0, rfl, rfl, rfl⟩, ?_⟩
    rintro m σ H' ⟨rfl, rfl, rfl⟩
    refine ⟨_, rfl, p, dx, _, rfl, S1.ob, rfl, ?_⟩
    refine ⟨p, ll, dx, ls, n, 0, rfl, S1, by decide, by decide, ?_⟩
    rw [ha]
    refine ⟨_, rfl, iteT ?_⟩
    refine ⟨_, rfl, p, dx, _, rfl, S1.ob, rfl, ?_⟩
    refine ⟨p, ll, dx, ls, n, rfl, S1, fun r1 H2 S12 nr1 hr1 => ?_⟩
    rw [hw] at hr1
    refine ⟨r1, _, _, _, rfl, rfl, SqL.of hr1, at0', _, rfl, rfl, _, rfl, iteF' (by show decide (V.str w0 = V.str kd) = false; exact decide_eq_false fun z => ne (V.str.inj z)) ?_⟩
    exact ⟨_, rfl, kq D _ (SD.trans S12) nD (S12 _ _ hD)⟩
end
end OR

set_option Elab.async false
set_option maxRecDepth 100000
set_option maxHeartbeats 8000000
set_option linter.all false
namespace OR
open PySem PySem.Spec PyProof.Rows L2 TS2
structure KwCls (P : Program) (w : World) (K : PySem.W.Frag) (mg : Str → Option Value) (base : Heap) (k : Nat) (x : Str) (C : Addr) (ps : List Str) (sp : Sp) : Prop where
  ex : ∃ (f : Addr) (fd : FuncData), mg x = some (.ref C) ∧ Mk K C f ∧ KBn K fd ps 2 kw3 (fun vs zs => vs ++ zs) (fun vs zs => vs ++ zs) ∧ FnOk P w K mg base (L2.CX P w) k f fd ps sp
def zeros9 : List Int := List.replicate 9 0
def tE : List Str := [""]
def tI : List Str := ["inputs go"]
def sI : Str := "inputs go"
def sR : Str := "rows"
def wI : List Str := ["inputs", "go"]
def wG : List Str := ["go"]
def spReadProg (K : PySem.W.Frag) : Sp := fun vs H Q E => ∃ v, vs = [v] ∧ ((NoStrT K H v ∧ Rz (cIA K) [("part", .str "text")] (fun _ => False) H E) ∨
  ∃ (t : Str) (ls : List Str), v = .str t ∧ t.length + 2 ≤ sizeLine ∧ Txt.split t "\n" = ls ∧ (∀ x ∈ ls, x.length + 2 ≤ sizeLine) ∧ ls.length ≤ 10000 ∧
    ((ls = tE ∧ Rz (cIT K) [("line", .int 1)] (fun _ => False) H E) ∨ (ls = tI ∧ Rz (cIT K) [("line", .int 2)] (fun _ => False) H E) ∨
      ∃ ks, NestLines ls ks ∧ ls[0]? = some sI ∧ ls[1]? = some sR ∧ (12 < ks.length → Rz (cIT K) [("line", .int 15)] (fun _ => False) H E) ∧
        (ks.length ≤ 12 → 4 < ks.length → Refuses K (fun _ => False) H "rows" zeros9 E) ∧
        (ks.length ≤ 4 → ∀ (x dx : Addr) (H' : Hp) (fs : List (Str × V)), Same H H' → H x = none → H' x = some (.ins (He.ga K "Program") dx fs) → Q (.ref x) H')))
theorem inputs_line : atB sI 0 = true ∧ wordsAt sI = wI ∧ atB "" 0 = true ∧ wordsAt "" = tE ∧ someW wG = true ∧ ("inputs" : Str) ≠ "ask" ∧ ("inputs" : Str) ≠ "signal" ∧ ("" : Str) ≠ "ask" ∧ ("" : Str) ≠ "signal" ∧ areW 3 wG = true := by decide +kernel
section
variable {P : Program} {w : World} {K : PySem.W.Frag} {mg : Str → Option Value} {base : Heap}
theorem ok_read_program {kl kp kr : Nat} {f : Addr} {fd : FuncData} (F : FnP K "read_program" "read_program" s_read_program f fd) (T : Tx w K mg) (hkl : 3 ≤ kl) (hkp : kp + 1 ≤ kl) (hkr : kr ≤ kl) (E_InvalidArgument : ErrDef P w K mg base CX0 1 "InvalidArgument" (cIA K) ["self", "part"] ["part"]) (E_InvalidText : ErrDef P w K mg base CX0 1 "InvalidText" (cIT K) ["self", "line"] ["line"])
    (K_Source : MkA P w K mg base CX0 1 "Source" (He.ga K "Source") [] p_Source___init__ (spSrcInit K)) (M_is_at : MDef P w K mg base CX0 2 (He.ga K "Source") "is_at" p_Source_is_at (spIsAt K)) (M_next_line : MDef P w K mg base CX0 1 (He.ga K "Source") "next_line" p_Source_next_line (spNextLine K))
    (M_next_words : MDef P w K mg base CX0 2 (He.ga K "Source") "next_words" p_Source_next_words (spNextWords K)) (M_go_on : MDef P w K mg base (L2.CX P w) 3 (He.ga K "Source") "go_on" p_Source_go_on (spGoOn K)) (G_are_some : Def P w K mg base CX0 2 "are_some" p_are_some (spAreSome K))
    (G_read_table : Def P w K mg base (L2.CX P w) 3 "read_table" p_read_table (spReadTable K)) (G_read_list : Def P w K mg base (L2.CX P w) kr "read_list" p_read_list (spReadList K 12))
    (cP : KwCls P w K mg base kp "Program" (He.ga K "Program") p_Program___init__ (spProgInit K 12)) : FnOk P w K mg base (L2.CX P w) (kl + 1) f fd p_read_program (spReadProg K) := by
  obtain ⟨fp, fdp, mp, mkp, kbp, okp⟩ := cP.ex
  refine F.ok sc_read_program (fun vs H Q E h => ?_) (fun cdv A outer s H vs Q E hr h => ?_)
  · obtain ⟨v, rfl, _⟩ := h
    rfl
  · obtain ⟨v, rfl, h⟩ := h
    refine ⟨_, (pss_cons (ps_if (pt_not (pt_val (pe_callB call_isi (by rfl) T.b_isinstance (by decide +kernel) (pa_cons (pv 0) (pa_cons (pe_bltn (v := .ty "str") (u := .type "str") (by rfl) T.b_str (by decide +kernel) rfl) pa_nil))))) (pss_one (ps_raise rfl (takes_of rfl rfl rfl rfl) (pmk_errL E_InvalidArgument (hr.mono (by omega)) (by rfl) pass0 (pa_cons pe_str pa_nil)))) pss_nil)
      (pss_cons (ps_set (i := 1) sc_read_program.nd rfl (.inl rfl) (pe_mkA K_Source (hr.mono (by omega)) (by rfl) pass0 (pa_cons (pv 0) pa_nil)))
      (pss_cons (ps_set (i := 2) sc_read_program.nd rfl (.inl rfl) (pe_fn G_read_table (hr.mono (by omega)) (by rfl) (passes_call (W := fun c d _ H => E c d H) (takes_of rfl rfl rfl rfl) (fun _ _ _ _ h => h)) (pa_cons (pv 1) (pa_cons pe_str pa_nil))))
      (pss_cons (ps_set (i := 3) sc_read_program.nd rfl (.inl rfl) (pe_fn G_read_table (hr.mono (by omega)) (by rfl) (passes_call (W := fun c d _ H => E c d H) (takes_of rfl rfl rfl rfl) (fun _ _ _ _ h => h)) (pa_cons (pv 1) (pa_cons pe_str pa_nil))))
      (pss_cons (ps_set (i := 4) sc_read_program.nd rfl (.inl rfl) (pe_slice sl_list (pe_mth0 M_next_words (hr.mono (by omega)) pass0 (pv 1)) (po_some pe_int) po_none))
      (pss_cons (ps_expr (pe_mth M_go_on (hr.mono (by omega)) (passes_call (W := fun c d _ H => E c d H) (takes_of rfl rfl rfl rfl) (fun _ _ _ _ h => h)) (pv 1) (pa_cons (pe_and (pe_mth M_is_at (hr.mono (by omega)) pass0 (pv 1) (pa_cons pe_int pa_nil)) (pe_and (pe_cmpR op_eq (pe_ix ix_list (pe_mth0 M_next_words (hr.mono (by omega)) pass0 (pv 1)) pe_int (fun _ _ => rfl)) pe_str (nomark _)) (pe_one (pe_fn G_are_some (hr.mono (by omega)) (by rfl) pass0 (pa_cons (pv 4) pa_nil))))) pa_nil)))
      (pss_cons (ps_expr (pe_mth M_go_on (hr.mono (by omega)) (passes_call (W := fun c d _ H => E c d H) (takes_of rfl rfl rfl rfl) (fun _ _ _ _ h => h)) (pv 1) (pa_cons (pe_cmpR op_eq (pe_mth0 M_next_line (hr.mono (by omega)) pass0 (pv 1)) pe_str (nomark _)) pa_nil)))
      (pss_cons (ps_set (i := 5) sc_read_program.nd rfl (.inl rfl) (pe_fn G_read_list (hr.mono (by omega)) (by rfl) (passes_call (W := fun c d _ H => E c d H) (takes_of rfl rfl rfl rfl) (fun _ _ _ _ h => h)) (pa_cons (pv 1) (pa_cons pe_int pa_nil))))
      (pss_cons (ps_if (pt_cmpR op_lt (pe_fld (pv 1) rfl) (pe_callB call_len_seq (by rfl) T.b_len PySem.boot_len (pa_cons (pe_fld (pv 1) rfl) pa_nil)) (nomark _)) (pss_one (ps_raise rfl (takes_of rfl rfl rfl rfl) (pmk_errL E_InvalidText (hr.mono (by omega)) (by rfl) pass0 (pa_cons (pe_op op_add (pe_fld (pv 1) rfl) pe_int) pa_nil)))) pss_nil)
      (pss_one (ps_ret (pe_makeKS (E := WE (fun c d _ H => E c d H)) (ks := kw3) (n := 1) mkp okp (hr.mono (by omega)) (by rfl) mp kbp (fun σ => passAt (takes_of rfl rfl rfl rfl) σ) (pa_cons (pv 5) pa_nil) (pk_cons (pv 2) (pk_cons (pv 3) (pk_cons (pe_callTy call_tuple_of (by rfl) T.b_tuple (by decide +kernel) (pa_cons (pv 4) pa_nil)) pk_nil))))))))))))))), ?_⟩
    obtain ⟨i1, i2, i3, i4, i5, i6, i7, i8, i9, i10⟩ := inputs_line
    rcases h with ⟨⟨ty, n1, n2⟩, ke⟩ | ⟨t, ls, rfl, tz, hs, lz, few, h⟩
    · refine ⟨_, rfl, v, .ty "str", _, _, false, rfl, .ty _, n1, n2, _, rfl, ?_⟩
      refine iteT ?_
      exact ⟨rfl, fun d0 H' nd hd oth => rz_now ke nd hd oth⟩
    · refine ⟨_, rfl, .str t, .ty "str", _, _, true, rfl, .ty _, .base (.str t), kit_ty (by decide +kernel), _, rfl, ?_⟩
      refine iteF ?_
      refine ⟨_, rfl, fun p dx np ndx npd => ?_⟩
      refine ⟨p, dx, t, rfl, upd_same, tz, fun H1 ll sv nll hp hll => ?_⟩
      rw [hs] at hll
      have S0 : Same H H1 := fun b o hb => by
        refine sv b o ?_ (ne_of_none hb np)
        rw [upd_ne (ne_of_none hb np), upd_ne (ne_of_none hb ndx)]
        exact hb
      have nll0 : H ll = none := by
        have z1 : ll ≠ p := fun z => by rw [z, upd_same] at nll; cases nll
        rw [upd_ne z1] at nll
        by_cases z2 : ll = dx
        · rw [z2]; exact ndx
        · rw [upd_ne z2] at nll; exact nll
      have S1 : SrcAt K H1 p ll dx ls 0 := ⟨hp, hll, lz⟩
      have pll : p ≠ ll := fun z => by rw [z, hll] at hp; cases hp
      -- the tables
      have line0 : atB (lineAt ls 0) 0 = true ∧ ∃ w0 r, wordsAt (lineAt ls 0) = w0 :: r ∧ w0 ≠ "ask" ∧ w0 ≠ "signal" ∧ r.length ≤ 1 := by
        rcases h with ⟨e, _⟩ | ⟨e, _⟩ | ⟨ks, NL, e, _⟩
        · subst e
          exact ⟨i3, _, _, i4, i8, i9, by show 0 ≤ 1; decide⟩
        · subst e
          exact ⟨i1, _, _, i2, i6, i7, by show 1 ≤ 1; decide⟩
        · have el : lineAt ls 0 = sI := by unfold lineAt; rw [List.getD_eq_getElem?_getD, e]; rfl
          rw [el]
          exact ⟨i1, _, _, i2, i6, i7, by show 1 ≤ 1; decide⟩
      obtain ⟨la, w0, r, lw, na, ns, lr⟩ := line0
      refine ⟨rfl, _, rfl, p, ll, dx, ls, 0, _, w0, r, rfl, S1, la, lw, na, fun D1 H2 S12 nD1 hD1 => ?_⟩
      have S2 := S1.same S12
      refine ⟨_, rfl, p, ll, dx, ls, 0, _, w0, r, rfl, S2, la, lw, ns, fun D2 H3 S23 nD2 hD2 => ?_⟩
      have S3 := S2.same S23
      have D12 : D1 ≠ D2 := ne_of_none hD1 nD2
      -- inputs
      refine ⟨_, rfl, p, dx, _, rfl, S3.ob, rfl, p, ll, dx, ls, 0, rfl, S3, fun r1 H4 S34 nr1 hr1 => ?_⟩
      rw [lw] at hr1
      have S4 := S3.same S34
      refine ⟨_, rfl, r1, _, rfl, SqL.of hr1, fun R nR => ?_⟩
      have er : cutV ((w0 :: r).map V.str) (some 1) none = r.map V.str := cut1
      rw [er]
      have S45 : Same H4 (upd H4 R (.lst (r.map V.str))) := Same.new nR
      have hR : upd H4 R (.lst (r.map V.str)) R = some (.lst (r.map V.str)) := upd_same
      generalize upd H4 R (.lst (r.map V.str)) = H5 at S45 hR ⊢
      have S5 := S4.same S45
      -- the line of inputs
      refine ⟨_, rfl, p, dx, _, rfl, S5.ob, rfl, ?_⟩
      refine ⟨_, rfl, p, dx, _, rfl, S5.ob, rfl, ?_⟩
      refine ⟨p, ll, dx, ls, 0, 0, rfl, S5, by decide, by decide, ?_⟩
      rw [la]
      refine ⟨_, rfl, iteT ?_⟩
      refine ⟨_, rfl, p, dx, _, rfl, S5.ob, rfl, ?_⟩
      refine ⟨p, ll, dx, ls, 0, rfl, S5, fun r2 H6 S56 nr2 hr2 => ?_⟩
      rw [lw] at hr2
      have S6 := S5.same S56
      have B6 : Same H H6 := ((((S0.trans S12).trans S23).trans S34).trans S45).trans S56
      refine ⟨r2, _, _, _, rfl, rfl, SqL.of hr2, at0', rfl, _, rfl, ?_⟩
      have rz0 : ∀ {Hc : Hp} {kvs : List (Str × V)}, Same H Hc → Rz (cIT K) kvs (fun _ => False) H E → Rz (cIT K) kvs (fun _ => False) Hc E := fun S r => Rz.of r (Kp.of S) (fun b n => S.free n) fun b z => z.elim
      rcases h with ⟨e, ke⟩ | h
      · have ew : w0 = "" ∧ r = [] := by
          rw [e] at lw
          have e2 : wordsAt (lineAt tE 0) = tE := i4
          rw [e2] at lw
          cases lw
          exact ⟨rfl, rfl⟩
        obtain ⟨rfl, rfl⟩ := ew
        refine iteF' (by decide +kernel) ?_
        refine ⟨p, ll, dx, ls, 0, false, rfl, S6, by omega, fun z => (by cases z), fun _ => rz0 B6 ke⟩
      have ew : w0 = "inputs" ∧ r = wG := by
        have e2 : wordsAt (lineAt ls 0) = wI := by
          rcases h with ⟨e, _⟩ | ⟨ks, NL, e, _⟩
          · rw [e]; exact i2
          · have el : lineAt ls 0 = sI := by unfold lineAt; rw [List.getD_eq_getElem?_getD, e]; rfl
            rw [el]; exact i2
        rw [e2] at lw
        cases lw
        exact ⟨rfl, rfl⟩
      obtain ⟨rfl, rfl⟩ := ew
      refine iteT' (by decide +kernel) ?_
      have hR6 := S56 _ _ hR
      refine ⟨_, rfl, R, wG, rfl, hR6, fun x hx => ?_, by show 1 ≤ 1000; decide, fun H7 S67 => ?_⟩
      · have : x = "go" := List.mem_singleton.mp hx
        rw [this]
        decide +kernel
      rw [i5]
      have S7 := S6.same S67
      have B7 := B6.trans S67
      refine ⟨p, ll, dx, ls, 0, true, rfl, S7, by omega, fun _ => ?_, fun z => (by cases z)⟩
      have up : ∀ {Hc : Hp} {n : Nat}, Same H Hc → SrcAt K Hc p ll dx ls n → ∀ m : Nat, Same H (upd Hc p (.ins (He.ga K "Source") dx [("lines", .ref ll), ("lines_read", .int (m : Nat))])) ∧ SrcAt K (upd Hc p (.ins (He.ga K "Source") dx [("lines", .ref ll), ("lines_read", .int (m : Nat))])) p ll dx ls m := fun {Hc n} B S m =>
        ⟨fun b o hb => by rw [upd_ne (ne_of_none hb np)]; exact B b o hb, ⟨upd_same, by rw [upd_ne pll.symm]; exact S.l, S.z⟩⟩
      obtain ⟨B8, S8⟩ := up B7 S7 1
      have hR8 : upd H7 p (.ins (He.ga K "Source") dx [("lines", .ref ll), ("lines_read", .int ((1 : Nat) : Int))]) R = some (.lst (wG.map V.str)) := by
        have hR7 := S67 _ _ hR6
        rw [upd_ne (fun z => by rw [z, S7.ob] at hR7; cases hR7)]
        exact hR7
      have hD18 : upd H7 p (.ins (He.ga K "Source") dx [("lines", .ref ll), ("lines_read", .int ((1 : Nat) : Int))]) D1 = some (.dK []) := by
        have h7 := S67 _ _ (S56 _ _ (S45 _ _ (S34 _ _ (S23 _ _ hD1))))
        rw [upd_ne (fun z => by rw [z, S7.ob] at h7; cases h7)]
        exact h7
      have hD28 : upd H7 p (.ins (He.ga K "Source") dx [("lines", .ref ll), ("lines_read", .int ((1 : Nat) : Int))]) D2 = some (.dK []) := by
        have h7 := S67 _ _ (S56 _ _ (S45 _ _ (S34 _ _ hD2)))
        rw [upd_ne (fun z => by rw [z, S7.ob] at h7; cases h7)]
        exact h7
      generalize upd H7 p (.ins (He.ga K "Source") dx [("lines", .ref ll), ("lines_read", .int ((1 : Nat) : Int))]) = H8 at B8 S8 hR8 hD18 hD28 ⊢
      refine ⟨_, rfl, p, dx, _, rfl, S8.ob, rfl, ?_⟩
      refine ⟨_, rfl, p, dx, _, rfl, S8.ob, rfl, ?_⟩
      refine ⟨p, ll, dx, ls, 1, rfl, S8, rfl, ?_⟩
      rcases h with ⟨e, ke⟩ | ⟨ks, NL, e0, e1, k15, kr, kp⟩
      · have el : lineAt ls 1 = "" := by rw [e]; rfl
        rw [el]
        refine ⟨p, ll, dx, ls, 1, false, rfl, S8, by omega, fun z => (by cases z), fun _ => rz0 B8 ke⟩
      have el : lineAt ls 1 = sR := by unfold lineAt; rw [List.getD_eq_getElem?_getD, e1]; rfl
      rw [el]
      refine ⟨p, ll, dx, ls, 1, true, rfl, S8, by omega, fun _ => ?_, fun z => (by cases z)⟩
      obtain ⟨B9, S9⟩ := up B8 S8 2
      have hR9 : upd H8 p (.ins (He.ga K "Source") dx [("lines", .ref ll), ("lines_read", .int ((2 : Nat) : Int))]) R = some (.lst (wG.map V.str)) := by
        rw [upd_ne (fun z => by rw [z, S8.ob] at hR8; cases hR8)]
        exact hR8
      have hD19 : upd H8 p (.ins (He.ga K "Source") dx [("lines", .ref ll), ("lines_read", .int ((2 : Nat) : Int))]) D1 = some (.dK []) := by
        rw [upd_ne (fun z => by rw [z, S8.ob] at hD18; cases hD18)]
        exact hD18
      have hD29 : upd H8 p (.ins (He.ga K "Source") dx [("lines", .ref ll), ("lines_read", .int ((2 : Nat) : Int))]) D2 = some (.dK []) := by
        rw [upd_ne (fun z => by rw [z, S8.ob] at hD28; cases hD28)]
        exact hD28
      generalize upd H8 p (.ins (He.ga K "Source") dx [("lines", .ref ll), ("lines_read", .int ((2 : Nat) : Int))]) = H9 at B9 S9 hR9 hD19 hD29 ⊢
      refine ⟨_, rfl, p, ll, dx, ls, ks, 0, rfl, S9, NL, Nat.zero_le _, rfl, fun H10 rl xs kq nrl hrl hxs S10 => ?_⟩
      have B10 : Same H H10 := fun b o hb => kq b o (B9 b o hb) (ne_of_none hb np)
      have ne9 : ∀ {b : Addr} {o : HO}, H9 b = some o → (∀ dx fs, o ≠ .ins (He.ga K "Source") dx fs) → H10 b = some o := fun {b o} hb n => kq b o hb fun z => by
        rw [z, S9.ob] at hb
        cases hb
        exact n _ _ rfl
      have hR10 := ne9 hR9 (fun _ _ z => by cases z)
      have hD110 := ne9 hD19 (fun _ _ z => by cases z)
      have hD210 := ne9 hD29 (fun _ _ z => by cases z)
      refine ⟨_, rfl, p, _, dx, _, .int ((2 + min ks.length 12 : Nat) : Int), rfl, S10.ob, T.c_Source, T.n_Source_lines_read, rfl, _, rfl, p, _, dx, _, .ref ll, rfl, S10.ob, T.c_Source, T.n_Source_lines, rfl, ll, _, rfl, .inl (SqL.of S10.l), _, _, rfl, rfl, _, rfl, ?_⟩
      rw [List.length_map, NL.1]
      refine ite2 (fun hb => ?_) fun hb => ?_
      · have h12 : 12 < ks.length := by have := of_decide_eq_true hb; omega
        refine ⟨_, rfl, p, _, dx, _, .int ((2 + min ks.length 12 : Nat) : Int), rfl, S10.ob, T.c_Source, T.n_Source_lines_read, rfl, _, _, rfl, rfl, ?_⟩
        rw [Nat.min_eq_right (Nat.le_of_lt h12)]
        exact ⟨rfl, fun d0 H' nd hd oth => rz_now (rz0 B10 (k15 h12)) nd hd oth⟩
      · have h12 : ks.length ≤ 12 := by
          rcases Nat.lt_or_ge 12 ks.length with z | z
          · exact absurd (decide_eq_true (by rw [Nat.min_eq_right (Nat.le_of_lt z)]; omega)) hb
          · exact z
        refine ⟨_, rfl, _, rfl, _, rfl, _, rfl, R, _, rfl, .inl ⟨SqL.of hR10, fun tI ntI => ?_⟩⟩
        have S11 : Same H10 (upd H10 tI (.tup (wG.map V.str))) := Same.new ntI
        have htI : upd H10 tI (.tup (wG.map V.str)) tI = some (.tup (wG.map V.str)) := upd_same
        have B11 := B10.trans S11
        have hD1 := S11 _ _ hD110
        have hD2 := S11 _ _ hD210
        have hrl' := S11 _ _ hrl
        have hxs' : All2 (RowAt K (upd H10 tI (.tup (wG.map V.str))) 12) (nest 12 ks) xs := hxs.imp fun x y _ q => RowAt.mono (fun b o e => S11 _ _ (res_some e).2) q
        generalize upd H10 tI (.tup (wG.map V.str)) = H11 at S11 htI B11 hD1 hD2 hrl' hxs' ⊢
        refine ⟨rfl, rfl, fun x dx2 nx ndx2 nxd => ?_⟩
        have Sx : Same H11 (upd (upd H11 dx2 (.own x)) x (.ins (He.ga K "Program") dx2 [])) := fun b o hb => by
          rw [upd_ne (ne_of_none hb nx), upd_ne (ne_of_none hb ndx2)]
          exact hb
        have k3 : ∀ k ∈ ks, k < 3 := fun k hk => by
          obtain ⟨i, hi, e⟩ := List.mem_iff_getElem.mp hk
          exact (NL.2 i k (by rw [List.getElem?_eq_getElem hi, e])).1
        have Hx : H x = none := B11.free nx
        have out := out_nest ks k3 h12
        have tab : ∀ {D : Addr} {part : Str} {m : Int}, 0 ≤ m → H11 D = some (.dK []) → TabArg K H11 part m (.ref D) (some []) := fun {D part m} hm h =>
          .good (ns := []) (bs := []) h (by show 0 ≤ 1000; decide) (fun H' _ => ⟨rfl, rfl, fun i v b z _ => (by simp at z), fun z hz => (by cases hz)⟩) ⟨hm, by rfl⟩
        refine ⟨x, dx2, .ref rl, .ref D1, .ref D2, .ref tI, true, some [], some [], some (nest 12 ks), H11, rfl, upd_same, nx, Sx, by decide, ⟨tab (by decide) hD1, tab (by decide) hD2, fun H' S' => ?_, args_nest k3 hrl' hxs'⟩, fun part path e => ?_, fun e H' fs sv' hx' => ?_⟩
        · rw [← i10]
          exact .tup (SqT.of (S' _ _ htI)) (fun z hz => by rw [List.mem_singleton.mp hz]; decide +kernel) (by show 1 ≤ 1000; decide)
        · rw [out] at e
          by_cases c : 5 ≤ ks.length
          · rw [if_pos c] at e
            cases e
            intro dd t2 H' kk nd hd ht
            refine kr h12 c dd t2 H' (fun b o hb _ => kk b o (Sx _ _ (B11 _ _ hb)) ?_) (B11.free (Sx.free nd)) hd ht
            rintro (z | z | z)
            · rw [z, Hx] at hb; cases hb
            · rw [← V.ref.inj z, S0.free nD1] at hb; cases hb
            · rw [← V.ref.inj z, (S0.trans S12).free nD2] at hb; cases hb
          · rw [if_neg c] at e
            cases e
        · rw [out] at e
          have c : ¬ 5 ≤ ks.length := fun c => by rw [if_pos c] at e; cases e
          exact ⟨rfl, kp (by omega) x dx2 H' fs (fun b o hb => sv' b o (Sx _ _ (B11 _ _ hb)) (ne_of_none hb Hx)) Hx hx'⟩
end
end OR

set_option Elab.async false
set_option maxRecDepth 100000
set_option maxHeartbeats 8000000
set_option linter.all false
namespace OR
open PySem PySem.Spec PyProof.Rows L2 TS2
def NoProg (K : PySem.W.Frag) (H : Hp) (v : V) : Prop := ∃ ty, TyX K H v ty ∧ PySem.W.kitOne K ty (.ref (He.ga K "Program")) = some false
def spCut (K : PySem.W.Frag) : Sp := fun vs H _ E => ∃ v, vs = [v] ∧ ((NotA K H v "list" ∧ Rz (cIH K) [("at", .int (-1))] (fun _ => False) H E) ∨ ∃ a, v = .ref a ∧ H a = some (.lst []) ∧ Rz (cIH K) [("at", .int 0)] (fun _ => False) H E)
def spProgText (K : PySem.W.Frag) : Sp := fun vs H _ E => ∃ v, vs = [v] ∧ NoProg K H v ∧ Rz (cIA K) [("part", .str "program")] (fun _ => False) H E
def spFitsWord (K : PySem.W.Frag) : Sp := fun vs H Q _ => ∃ z : Str, vs = [.str "word", .str z] ∧ z.length ≤ sizeLine ∧ ∀ H', Same H H' → Q (.bl (isWord z)) H'
section
variable {P : Program} {w : World} {K : PySem.W.Frag} {mg : Str → Option Value} {base : Heap}
theorem ok_cut {f : Addr} {fd : FuncData} (F : FnP K "cut" "cut" s_cut f fd) (T : Tx w K mg) (E_InvalidHistory : ErrDef P w K mg base CX0 1 "InvalidHistory" (cIH K) ["self", "at"] ["at"]) : FnOk P w K mg base (L2.CX P w) 3 f fd p_cut (spCut K) := by
  refine F.ok sc_cut (fun vs H Q E h => ?_) (fun cdv A outer s H vs Q E hr h => ?_)
  · obtain ⟨v, rfl, _⟩ := h
    rfl
  · obtain ⟨v, rfl, h⟩ := h
    refine ⟨_, (pss_cons (ps_if (pt_not (pt_val (pe_callB call_isi (by rfl) T.b_isinstance (by decide +kernel) (pa_cons (pv 0) (pa_cons (pe_bltn (v := .ty "list") (u := .type "list") (by rfl) T.b_list (by decide +kernel) rfl) pa_nil))))) (pss_one (ps_raise rfl (takes_of rfl rfl rfl rfl) (pmk_errL E_InvalidHistory (hr.mono (by omega)) (by rfl) pass0 (pa_cons (pe_un un_neg pe_int) pa_nil)))) pss_nil)
      (pss_cons (ps_set (i := 1) sc_cut.nd rfl (.inl rfl) (pe_ifExp (pt_cmpR op_eq (pe_callB call_len_seq (by rfl) T.b_len PySem.boot_len (pa_cons (pv 0) pa_nil)) pe_int (nomark _)) pe_int pe_never))
      (pss_cons (ps_if (pt_cmpR op_notN (pv 1) pe_non (nomark _)) (pss_one (ps_raise rfl (takes_of rfl rfl rfl rfl) (pmk_errL E_InvalidHistory (hr.mono (by omega)) (by rfl) pass0 (pa_cons (pv 1) pa_nil)))) pss_nil)
      (pss_one ps_never)))), ?_⟩
    rcases h with ⟨⟨ty, n1, n2⟩, ke⟩ | ⟨a, rfl, ha, ke⟩
    · refine ⟨_, rfl, v, .ty "list", _, _, false, rfl, .ty _, n1, n2, _, rfl, ?_⟩
      refine iteT ?_
      refine ⟨_, rfl, ?_⟩
      exact ⟨rfl, fun d0 H' nd hd oth => rz_now ke nd hd oth⟩
    · refine ⟨_, rfl, .ref a, .ty "list", _, _, true, rfl, .ty _, tyL (SqL.of ha), kit_ty (by decide +kernel), _, rfl, ?_⟩
      refine iteF ?_
      refine ⟨_, rfl, a, _, rfl, .inl (SqL.of ha), rfl, _, rfl, iteT' (by rfl) ?_⟩
      refine ⟨_, rfl, rfl, _, rfl, iteT' (by rfl) ?_⟩
      refine ⟨_, rfl, ?_⟩
      exact ⟨rfl, fun d0 H' nd hd oth => rz_now ke nd hd oth⟩
theorem ok_program_text {f : Addr} {fd : FuncData} (F : FnP K "program_text" "program_text" s_program_text f fd) (T : Tx w K mg) (E_InvalidArgument : ErrDef P w K mg base CX0 1 "InvalidArgument" (cIA K) ["self", "part"] ["part"]) : FnOk P w K mg base (L2.CX P w) 3 f fd p_program_text (spProgText K) := by
  refine F.ok sc_program_text (fun vs H Q E h => ?_) (fun cdv A outer s H vs Q E hr h => ?_)
  · obtain ⟨v, rfl, _⟩ := h
    rfl
  · obtain ⟨v, rfl, ⟨ty, n1, n2⟩, ke⟩ := h
    refine ⟨_, (pss_cons (ps_if (pt_not (pt_val (pe_callB call_isi (by rfl) T.b_isinstance (by decide +kernel) (pa_cons (pv 0) (pa_cons (pe_ref (by rfl) T.m_Program) pa_nil))))) (pss_one (ps_raise rfl (takes_of rfl rfl rfl rfl) (pmk_errL E_InvalidArgument (hr.mono (by omega)) (by rfl) pass0 (pa_cons pe_str pa_nil)))) pss_nil)
      (pss_cons ps_never
      (pss_cons ps_never
      (pss_cons ps_never
      (pss_cons ps_never
      (pss_cons ps_never
      (pss_cons ps_never
      (pss_cons ps_never
      (pss_one ps_never))))))))), ?_⟩
    refine ⟨_, rfl, v, .ref (He.ga K "Program"), _, _, false, rfl, .own _, n1, n2, _, rfl, ?_⟩
    refine iteT ?_
    exact ⟨rfl, fun d0 H' nd hd oth => rz_now ke nd hd oth⟩
theorem ok_fits_word {f : Addr} {fd : FuncData} (F : FnP K "fits_word" "fits_word" s_fits_word f fd) (T : Tx w K mg) (G_is_word : Def P w K mg base CX0 1 "is_word" p_is_word (spIsWord K)) : FnOk P w K mg base CX0 2 f fd p_fits_word (spFitsWord K) := by
  refine F.ok sc_fits_word (fun vs H Q E h => ?_) (fun cdv A outer s H vs Q E hr h => ?_)
  · obtain ⟨z, rfl, _⟩ := h
    rfl
  · obtain ⟨z, rfl, hz, k⟩ := h
    refine ⟨_, PSs.nox (pss_cons (ps_if (pt_cmpR op_eq (pv 0) pe_str (nomark _)) (pss_one (ps_ret (pe_fn G_is_word (hr.mono (by omega)) (by rfl) pass0 (pa_cons (pv 1) pa_nil)))) pss_nil)
      (pss_cons ps_never
      (pss_one ps_never))), ?_⟩
    refine ⟨_, rfl, rfl, _, rfl, iteT' (by decide +kernel) ?_⟩
    refine ⟨_, rfl, .inl ⟨z, rfl, hz, fun H' S => k H' S⟩⟩
theorem ok_history_text {f : Addr} {fd : FuncData} (F : FnP K "history_text" "history_text" s_history_text f fd) (T : Tx w K mg) (G_cut : Def P w K mg base (L2.CX P w) 3 "cut" p_cut (spCut K)) : FnOk P w K mg base (L2.CX P w) 4 f fd p_history_text (spCut K) := by
  refine F.ok sc_history_text (fun vs H Q E h => ?_) (fun cdv A outer s H vs Q E hr h => ?_)
  · obtain ⟨v, rfl, _⟩ := h
    rfl
  · obtain ⟨v, rfl, h⟩ := h
    refine ⟨_, (pss_one (ps_ret (pe_join pe_str (pe_lc2 (own := [("turn", 1), ("token", 2)]) (g := (gName 1)) (g1 := (gName 2)) (wi1 := iList K (tVar 1)) (vs1 := [2]) rfl sc_history_text.nd (show PI _ _ _ (iList K _) from pi_list (pe_fn G_cut (hr.mono (by omega)) (by rfl) (passes_call (W := fun c d _ H => E c d H) (takes_of rfl rfl rfl rfl) (fun _ _ _ _ h => h)) (pa_cons (pv 0) pa_nil))) (blkOk_by (N := n_history_text) (sc := defScope s_history_text) (by decide +kernel)) (by decide) (fun _ _ _ _ _ => (pg_name (i := 1) sc_history_text.nd rfl (.inl rfl))) (fun _ _ _ _ _ => pts_nil) (fun _ _ _ _ _ => (pi_list (pv 1))) (fun _ _ _ _ _ => (pg_name (i := 2) sc_history_text.nd rfl (.inl rfl))) (fun _ _ _ _ _ => pts_nil) (fun _ _ _ _ _ => pe_never))))), ?_⟩
    refine ⟨⟨_, rfl⟩, _, rfl, v, rfl, h⟩
end
end OR

set_option Elab.async false
set_option maxRecDepth 100000
set_option maxHeartbeats 4000000
set_option linter.all false
/-! zip of a tuple and a list -/
namespace L2
open PySem PySem.Spec PyProof.Rows
def ItzM (K : PySem.W.Frag) (a b : Addr) : It where
  go := fun i H => ∃ (xs ys : List V) (u v : V), SqT K H a xs ∧ SqL K H b ys ∧ xs[i]? = some u ∧ ys[i]? = some v
  yld := fun i H r H2 => ∃ t u v, r = .ref t ∧ H t = none ∧ H2 = upd H t (.tup [u, v]) ∧ (∀ xs, SqT K H a xs → xs[i]? = some u) ∧ ∀ ys, SqL K H b ys → ys[i]? = some v
  stop := fun i H => ∃ xs ys : List V, SqT K H a xs ∧ SqL K H b ys ∧ i ≤ xs.length ∧ i ≤ ys.length ∧ (i = xs.length ∨ i = ys.length)
abbrev zipSt (a b z t1 t2 i1 i2 : Addr) (i : Nat) (h : Heap) : Prop := IsZip h z t1 t2 .none ∧ IsTupOf2 h t1 (.ref i1) (.ref i2) ∧ (∃ u v, IsTupOf2 h t2 u v) ∧ h.IsTupleIter i1 a i ∧ h.IsListIter i2 b i
theorem turn_zipM {P : Program} {w : World} {K : PySem.W.Frag} {elts : List Expr} {kk : Nat} {tpos : Pos} {a b z t1 t2 i1 i2 : Addr} (D : ZipSep2 z t1 t2 i1 i2 [i1, a] [i2, b]) (ha : a ≠ i1) (hb : b ≠ i2) :
    Turn P w K (.Tuple elts kk tpos) (ItzM K a b) [z, t1, t2, i1, i2] z (zipSt a b z t1 t2 i1 i2) := by
  have mem5 : ∀ {c : Addr}, c ∈ [z, t1, t2, i1, i2] → c = z ∨ c = t1 ∨ c = t2 ∨ c = i1 ∨ c = i2 := fun h => by simpa using h
  have i12 : i1 ≠ i2 := fun e => D.sep1_2 (by rw [e]; simp)
  refine ⟨by simp, fun i h st c hc => ?_, fun i h h2 st k => ?_, ?_, ?_, fun A i s Q E st q => wpAny_pyIter_zip st.1 q⟩
  · obtain ⟨q1, q2, ⟨u, v, q3⟩, ⟨o1, e1, _, d1⟩, ⟨o2, e2, _, d2⟩⟩ := st
    rcases mem5 hc with e | e | e | e | e <;> subst e
    · exact ⟨_, q1, fun _ e => nomatch e⟩
    · exact ⟨_, q2, fun _ e => nomatch e⟩
    · exact ⟨_, q3, fun _ e => nomatch e⟩
    · exact ⟨o1, e1, fun _ e => by rw [d1] at e; cases e⟩
    · exact ⟨o2, e2, fun _ e => by rw [d2] at e; cases e⟩
  · obtain ⟨q1, q2, ⟨u, v, q3⟩, q4, q5⟩ := st
    exact ⟨k z (by simp) _ q1, k t1 (by simp) _ q2, ⟨u, v, k t2 (by simp) _ q3⟩, q4.at fun o e => k i1 (by simp) o e, q5.at fun o e => k i2 (by simp) o e⟩
  · intro X eP ew eK hc i pins s σ H E I hf st hg
    subst eP ew eK
    obtain ⟨q1, q2, ⟨u0, v0, q3⟩, q4, q5⟩ := st
    obtain ⟨xs, ys, u, v, hx, hy, ex, ey⟩ := hg
    obtain ⟨us, rv, pt, _⟩ := I.tuple hx
    obtain ⟨vs, rv2, pl, _⟩ := I.list hy
    obtain ⟨uu, hu, ru⟩ := rv.get ex
    obtain ⟨vv, hv, rw2⟩ := rv2.get ey
    have zl : z < s.heap.objs.size := Heap.lt_size q1
    have ha0 : X.A.in1.handled = none := I.ok.hd hc
    have l1 : i < us.toArray.size := by
      have := (List.getElem?_eq_some_iff.mp hu).1
      simpa using this
    have l2 : i < vs.toArray.size := by
      have := (List.getElem?_eq_some_iff.mp hv).1
      simpa using this
    refine wpAny_pyNext_zipD2_item D (Draws.tuple (A := X.A.in1) (prog := X.prog) (w := X.w) ha0 i1 a ha us.toArray) (Draws.list (A := X.A.in1) (prog := X.prog) (w := X.w) ha0 i2 b hb vs.toArray) q1 q2 q3 ⟨q4, pt⟩ ⟨q5, pl.isList⟩ l1 l2 fun x1 x2 hp tk y1 y2 z2 p2 st1 st2 hT sz k => ?_
    have e1 : x1 = uu := by
      have : us[i]? = some x1 := by simpa using y1
      rw [hu] at this
      exact (Option.some.inj this).symm
    have e2 : x2 = vv := by
      have : vs[i]? = some x2 := by simpa using y2
      rw [hv] at this
      exact (Option.some.inj this).symm
    subst e1 e2
    refine ⟨_, rfl, wpAny_letOwnedTupleGo_zip (s := { s with heap := hp, toks := tk }) z2 fun hp2 z3 sb => ?_⟩
    have hT2 : hp2.get? s.heap.objs.size = some { cls := .type "tuple", data := .seq #[x1, x2] } := (sb.2 _ (Nat.ne_of_gt zl)).trans hT
    have made : ObjOk X.prog X.w (upd H s.heap.objs.size (.tup [u, v])) hp2 s.heap.objs.size (.tup [u, v]) := ⟨by show 2 ≤ sizeLine; decide, [x1, x2], .cons ru (.cons rw2 .nil), ⟨_, hT2, rfl, _, rfl⟩⟩
    have keepAll : ∀ c o, c ∉ [z, t1, t2, i1, i2] → s.heap.get? c = some o → hp2.get? c = some o := fun c o n e => by
      have n1 : c ≠ z := fun q => n (by simp [q])
      have n2 : c ≠ t2 := fun q => n (by simp [q])
      have n3 : c ≠ i1 := fun q => n (by simp [q])
      have n4 : c ≠ i2 := fun q => n (by simp [q])
      exact (sb.2 c n1).trans (k c o n1 n2 n3 n4 e)
    have I2 : Inv X pins σ (upd H s.heap.objs.size (.tup [u, v])) { s with heap := hp2, toks := tk } := I.turnedNew (t' := tk) (ch := [z, t1, t2, i1, i2]) (fun c o hb q => keepAll c o hb q) hf (Nat.le_refl _) made
    refine ⟨.ref s.heap.objs.size, _, I2, rfl, ⟨_, u, v, rfl, I.hok.fresh (Nat.le_refl _), rfl, fun l hl => by rw [I.tuple_inj hl hx]; exact ex, fun l hl => by rw [I.list_inj hl hy]; exact ey⟩, ⟨z3, ?_, ⟨x1, x2, ?_⟩, ?_, ?_⟩, fun c hcm => ?_⟩
    · exact (sb.2 _ D.TIz).trans (k _ _ D.TIz D.TITO D.TIi1 D.TIi2 q2)
    · exact (sb.2 _ D.TOz).trans p2
    · exact st1.1.at fun o e => (sb.2 _ D.zi1.symm).trans e
    · exact st2.1.at fun o e => (sb.2 _ D.zi2.symm).trans e
    · have lt : c < s.heap.objs.size := by
        rcases mem5 hcm with e | e | e | e | e <;> subst e
        · exact zl
        · exact Heap.lt_size q2
        · exact Heap.lt_size q3
        · obtain ⟨_, e1, _⟩ := q4; exact Heap.lt_size e1
        · obtain ⟨_, e2, _⟩ := q5; exact Heap.lt_size e2
      rw [upd_ne (Nat.ne_of_lt lt)]
      exact (hf c hcm).1
  · intro X eP ew eK hc i pins s σ H E I hf st hg
    subst eP ew eK
    obtain ⟨q1, q2, ⟨u0, v0, q3⟩, q4, q5⟩ := st
    obtain ⟨xs, ys, hx, hy, lx, ly, fin⟩ := hg
    obtain ⟨us, rv, pt, _⟩ := I.tuple hx
    obtain ⟨vs, rv2, pl, _⟩ := I.list hy
    have l1 := rv.length
    have l2 := rv2.length
    have ha0 : X.A.in1.handled = none := I.ok.hd hc
    refine wpAny_pyNext_zipD2_end D (Draws.tuple (A := X.A.in1) (prog := X.prog) (w := X.w) ha0 i1 a ha us.toArray) (Draws.list (A := X.A.in1) (prog := X.prog) (w := X.w) ha0 i2 b hb vs.toArray) q1 q2 q3 ⟨q4, pt⟩ ⟨q5, pl.isList⟩ (by simp; omega) (by simp; omega) (by simp; omega) fun hp tk k => ⟨rfl, I.turnedL (t' := tk) (ch := [z, t1, t2, i1, i2]) (fun c o n e => ?_) hf⟩
    exact k c o (fun q => n (by simp [q])) (fun q => n (by simp [q])) (fun q => n (by simp [q])) (fun q => n (by simp [q])) e
end L2
namespace L2
open PySem PySem.Spec PyProof.Rows
def iZipM (K : PySem.W.Frag) (ta : TA) : TI := fun σ H R => ta σ H fun vs H1 => ∃ a b xs ys, vs = [.ref a, .ref b] ∧ SqT K H1 a xs ∧ SqL K H1 b ys ∧ R (ItzM K a b) H1
theorem pi_zipM {X : Cx} {e e2 : Expr} {ta : TA} {p pos tpos : Pos} {elts : List Expr} {kk : Nat} (hg : Gl X "zip") (hm : X.mg "zip" = none) (ha : PA X [e, e2] ta)
    (hst : starEach [e, e2] X.env = (false, eval e X.env) :: starEach [e2] X.env := by rfl) (hp : (backTo pos (starEach [e2] X.env)).any (·.1) = false := by rfl) :
    PI X (.Tuple elts kk tpos) (.Call (.Name "zip" p) [e, e2] [] pos) (iZipM X.K ta) := by
  refine ⟨fun pins s σ H R I h => Call_ (ld_blt I hg hm PyProof.Rows.boot_zip (PyProof.Rows.callWith_type1 (thn (ha.run pos pins s σ H _ I h) fun us s1 ⟨vs, H1, I1, r1, q1⟩ => ?_) hst hp))⟩
  obtain ⟨a, b, xs, ys, rfl, hx, hy, q⟩ := q1
  obtain ⟨u1, us, rfl, ra, r2⟩ : ∃ u1 us', us = u1 :: us' ∧ RelV (.ref a) u1 ∧ Vals [V.ref b] us' := by cases r1 with | cons x y => exact ⟨_, _, rfl, x, y⟩
  obtain ⟨u2, rfl, rb⟩ : ∃ u2, us = [u2] ∧ RelV (.ref b) u2 := by cases r2 with | cons x y => cases y; exact ⟨_, rfl, x⟩
  cases ra
  cases rb
  obtain ⟨i1, rv, pt, _⟩ := I1.tuple hx
  obtain ⟨i2, rv2, pl, _⟩ := I1.list hy
  have la : a < s1.heap.objs.size := by obtain ⟨_, e, _⟩ := id pt; exact Heap.lt_size e
  have lb : b < s1.heap.objs.size := pl.lt
  refine zip_begins2 (begins_tuple a i1.toArray) (begins_list b i2.toArray) pt pl.isList fun hp hz ht hto o1 o2 sz k => wpAny_pyIter_zip hz ?_
  have I2 : Inv X pins σ H1 { s1 with heap := hp } := I1.kept (t' := s1.toks) k
  have D : ZipSep2 (s1.heap.objs.size + 4) (s1.heap.objs.size + 2) (s1.heap.objs.size + 3) s1.heap.objs.size (s1.heap.objs.size + 1) [s1.heap.objs.size, a] [s1.heap.objs.size + 1, b] :=
    zip_sep2 (fp1 := [a]) (fp2 := [b]) (fun c hc => by rw [List.mem_singleton.mp hc]; exact la) (fun c hc => by rw [List.mem_singleton.mp hc]; exact lb)
  refine ⟨_, [s1.heap.objs.size + 4, s1.heap.objs.size + 2, s1.heap.objs.size + 3, s1.heap.objs.size, s1.heap.objs.size + 1], _, _, H1, rfl, I2, turn_zipM D (Nat.ne_of_lt la) (Nat.ne_of_lt (Nat.lt_succ_of_lt lb)), ⟨hz, ht, ⟨_, _, hto⟩, ⟨_, o1, rfl, rfl⟩, ⟨_, o2, rfl, rfl⟩⟩, fun c hc => ?_, q⟩
  have le : s1.heap.objs.size ≤ c := by
    have : c = s1.heap.objs.size + 4 ∨ c = s1.heap.objs.size + 2 ∨ c = s1.heap.objs.size + 3 ∨ c = s1.heap.objs.size ∨ c = s1.heap.objs.size + 1 := by simpa using hc
    rcases this with e | e | e | e | e <;> rw [e]
    · exact Nat.le_add_right _ _
    · exact Nat.le_add_right _ _
    · exact Nat.le_add_right _ _
    · exact Nat.le_refl _
    · exact Nat.le_add_right _ _
  exact I1.fpOk le (I1.hok.fresh le)
theorem walk_zipM {K : PySem.W.Frag} {a b : Addr} {xs ys : List V} {n : Nat} (hn : n = min xs.length ys.length) : Walk (ItzM K a b) n (fun H => SqT K H a xs ∧ SqL K H b ys) (YPair (fun i => xs[i]?) (fun i => ys[i]?)) := by
  subst hn
  refine ⟨fun i _ hi q => ?_, fun _ q => ⟨xs, ys, q.1, q.2, by omega, by omega, by omega⟩, fun i H v H' _ q y => ?_⟩
  · have h1 : i < xs.length := by omega
    have h2 : i < ys.length := by omega
    exact ⟨xs, ys, xs[i], ys[i], q.1, q.2, by simp [h1], by simp [h2]⟩
  · obtain ⟨T, x, z, h1, h2, h3, h4, h5⟩ := y
    exact ⟨T, x, z, h1, h2, h3, h4 xs q.1, h5 ys q.2⟩
end L2

set_option Elab.async false
set_option maxRecDepth 100000
set_option maxHeartbeats 8000000
set_option linter.all false
namespace OR
open PySem PySem.Spec PyProof.Rows L2 TS2
def sBegin : Str := "begin"
def sGo : Str := "begin go"
def splS (l : Str) : List Str := Txt.split l " "
/-- how a line goes -/
inductive LineIs (l : Str) : Bool → Prop
  | cmd {w : Str} {r : List Str} (s : Txt.startswith l "  " = true) (e : splS (cutS l (some 2) none) = w :: r) (h : w ∈ ctabN) : LineIs l true
  | out {w : Str} {r : List Str} (s : Txt.startswith l "  " = false) (e : splS l = w :: r) (h : w ∈ otabN) : LineIs l true
  | many {ws : List Str} (s : Txt.startswith l "  " = false) (e : splS l = sBegin :: ws) (h : ws.length ≠ 1) : LineIs l true
  | word {z : Str} (s : Txt.startswith l "  " = false) (e : splS l = [sBegin, z]) : LineIs l (!isWord z)
theorem LineIs.of {l : Str} (h : badLine l = true) : LineIs l true := by
  unfold badLine at h
  by_cases s : Txt.startswith l "  " = true
  · rw [if_pos s] at h
    cases e : Txt.split (cutS l (some 2) none) " " with
    | nil => rw [e] at h; cases h
    | cons w r =>
      rw [e] at h
      exact .cmd s e (of_decide_eq_true h)
  · rw [if_neg s] at h
    have s : Txt.startswith l "  " = false := by simpa using s
    cases e : Txt.split l " " with
    | nil => rw [e] at h; cases h
    | cons w ws =>
      rw [e] at h
      rcases Bool.or_eq_true_iff.mp h with h | h
      · exact .out s e (of_decide_eq_true h)
      · obtain ⟨h1, h2⟩ := Bool.and_eq_true_iff.mp h
        have h1 := of_decide_eq_true h1
        subst h1
        match ws, h2 with
        | [], _ => exact .many s e (by decide)
        | [z], h2 =>
          have h3 : isWord z = false := by simpa using h2
          have := LineIs.word s e
          rw [h3] at this
          exact this
        | _ :: _ :: _, _ => exact .many s e (by simp)
theorem go_line : Txt.startswith sGo "  " = false ∧ splS sGo = ([sBegin, "go"] : List Str) ∧ isWord "go" = true := by decide +kernel
def spTokenOf (K : PySem.W.Frag) : Sp := fun vs H Q _ => ∃ (l : Str) (b : Bool), vs = [.str l] ∧ l.length + 2 ≤ sizeLine ∧ LineIs l b ∧ (∀ x ∈ splS l, x.length ≤ 100) ∧ (splS l).length ≤ 100 ∧
  (b = true → ∀ (t : Addr) (H' : Hp), Same H H' → H t = none → H' t = some (.tup []) → Q (.ref t) H') ∧ (b = false → ∀ (t : Addr) (H' : Hp) (z : Str), Same H H' → H t = none → H' t = some (.tup [.str "begin", .str z]) → Q (.ref t) H')
theorem cutS_le (l : Str) (a b : Option Int) : (cutS l a b).length ≤ l.length := by
  unfold cutS Str.length
  simp
  omega
section
variable {P : Program} {w : World} {K : PySem.W.Frag} {mg : Str → Option Value} {base : Heap}
theorem ok_token_of {f : Addr} {fd : FuncData} (F : FnP K "token_of" "token_of" s_token_of f fd) (T : Tx w K mg) (G_fits_word : Def P w K mg base CX0 2 "fits_word" p_fits_word (spFitsWord K)) : FnOk P w K mg base CX0 3 f fd p_token_of (spTokenOf K) := by
  refine F.ok sc_token_of (fun vs H Q E h => ?_) (fun cdv A outer s H vs Q E hr h => ?_)
  · obtain ⟨l, b, rfl, _⟩ := h
    rfl
  · obtain ⟨l, b, rfl, hl, li, lz, lf, kt, kf⟩ := h
    obtain ⟨tS, mSTEP⟩ := T.m_STEP
    refine ⟨_, PSs.nox (pss_cons (ps_if (pt_val (pe_m1 PySem.F.slot_str_startswith PySem.F.type_str_startswith mt_startswith (pv 0) (pe_glob (by rfl) mSTEP (show RelV (.str "  ") _ from ⟨_, rfl⟩)))) (pss_cons (ps_set (i := 2) sc_token_of.nd rfl (.inl rfl) (pe_split (pe_slice sl_str (pv 0) (po_some (pe_callB call_len_str (by rfl) T.b_len PySem.boot_len (pa_cons (pe_glob (by rfl) mSTEP (show RelV (.str "  ") _ from ⟨_, rfl⟩)) pa_nil))) po_none) pe_str))
      (pss_one (ps_set (i := 3) sc_token_of.nd rfl (.inl rfl) (pe_kget T.D_COMMAND_FORMS (pe_ref (by rfl) T.m_COMMAND_FORMS) (pe_ix ix_list (pv 2) pe_int (fun _ _ => rfl)) ⟨rfl, rfl, rfl, rfl⟩)))) (pss_cons (ps_set (i := 2) sc_token_of.nd rfl (.inl rfl) (pe_split (pv 0) pe_str))
      (pss_one (ps_set (i := 3) sc_token_of.nd rfl (.inl rfl) (pe_kget T.D_OUTER_FORMS (pe_ref (by rfl) T.m_OUTER_FORMS) (pe_ix ix_list (pv 2) pe_int (fun _ _ => rfl)) ⟨rfl, rfl, rfl, rfl⟩)))))
      (pss_cons (ps_if (PW.pt (pw_or (pt_cmpR op_isN (pv 3) pe_non (nomark _)) (pw_or1 (pt_cmpR op_ne (pe_callB call_len_seq (by rfl) T.b_len PySem.boot_len (pa_cons (pv 2) pa_nil)) (pe_op op_add pe_int (pe_callB call_len_seq (by rfl) T.b_len PySem.boot_len (pa_cons (pv 3) pa_nil))) (nomark _))))) (pss_one (ps_ret (pe_tup pa_nil))) pss_nil)
      (pss_cons (ps_if (pt_not (pt_val (pe_callB (cr_all rfl) (by rfl) T.b_all (by decide +kernel) (pa_cons (pe_lc (own := [("form", 4), ("word", 5)]) (g := (gTup K 2 (gCons (gName 4) (gCons (gName 5) gNil)))) (by rfl) sc_token_of.nd (pi_zipM (by rfl) T.b_zip (pa_cons (pv 3) (pa_cons (pe_slice sl_list (pv 2) (po_some pe_int) po_none) pa_nil))) (blkOk_by (N := n_token_of) (sc := defScope s_token_of) (by decide +kernel)) (fun _ _ _ _ _ => (pg_tup (by rfl) (pgs_cons (pg_name (i := 4) sc_token_of.nd rfl (.inl rfl)) (pgs_cons (pg_name (i := 5) sc_token_of.nd rfl (.inl rfl)) pgs_nil)))) (fun _ _ _ _ _ => pts_nil) (fun _ _ _ _ _ => (pe_fn G_fits_word (hr.mono (by omega)) (by rfl) pass0 (pa_cons (pv 4) (pa_cons (pv 5) pa_nil))))) pa_nil)))) (pss_one (ps_ret (pe_tup pa_nil))) pss_nil)
      (pss_cons (ps_setLc (i := 1) (own := [("form", 4), ("word", 5)]) (g := (gTup K 2 (gCons (gName 4) (gCons (gName 5) gNil)))) (by rfl) sc_token_of.nd rfl rfl (sw_true rfl rfl rfl (by decide +kernel)) (pi_zipM (by rfl) T.b_zip (pa_cons (pv 3) (pa_cons (pe_slice sl_list (pv 2) (po_some pe_int) po_none) pa_nil))) (blkOk_by (N := n_token_of) (sc := defScope s_token_of) (by decide +kernel)) (fun _ _ _ _ _ => (pg_tup (by rfl) (pgs_cons (pg_name (i := 4) sc_token_of.nd rfl (.inl rfl)) (pgs_cons (pg_name (i := 5) sc_token_of.nd rfl (.inl rfl)) pgs_nil)))) (fun _ _ _ _ _ => pts_nil) (fun _ _ _ _ _ => (pe_ifExp (pt_cmpR op_eq (pv 4) pe_str (nomark _)) pe_never (pv 5))))
      (pss_one (ps_ret (pe_op op_catT (pe_tup (pa_cons (pe_ix ix_list (pv 2) pe_int (fun _ _ => rfl)) pa_nil)) (pe_callTy call_tuple_of (by rfl) T.b_tuple (by decide +kernel) (pa_cons (pv 1) pa_nil))))))))), ?_⟩
    refine ⟨_, rfl, ⟨_, rfl⟩, l, "  ", rfl, rfl, ?_⟩
    have l2 : (((("  " : Str).length : Nat)) : Int) = 2 := by decide +kernel
    -- none of the tables
    cases li with
    | @cmd w r s e h =>
      rw [s]
      refine ⟨_, rfl, iteT ?_⟩
      refine ⟨_, rfl, "  ", rfl, by decide +kernel, _, rfl, l, rfl, by omega, ?_⟩
      rw [l2]
      refine ⟨⟨_, rfl⟩, _, " ", rfl, rfl, by decide +kernel, by have := cutS_le l (some 2) none; omega, fun r1 nr1 => ?_⟩
      have e : Txt.split (cutS l (some 2) none) " " = w :: r := e
      rw [e]
      have S1 : Same H (upd H r1 (.lst ((w :: r).map V.str))) := Same.new nr1
      have h1 : upd H r1 (.lst ((w :: r).map V.str)) r1 = some (.lst ((w :: r).map V.str)) := upd_same
      generalize upd H r1 (.lst ((w :: r).map V.str)) = H1 at S1 h1 ⊢
      refine ⟨_, rfl, r1, _, _, .str w, rfl, rfl, SqL.of h1, at0', w, none, rfl, T.cmdN _ h, .inl ⟨rfl, ?_⟩⟩
      refine ⟨_, rfl, rfl, _, rfl, iteT' (by rfl) ?_⟩
      refine iteT ?_
      exact ⟨by show 0 ≤ sizeLine; decide, fun t nt => kt rfl t _ (S1.trans (Same.new nt)) (S1.free nt) upd_same⟩
    | @out w r s e h =>
      rw [s]
      refine ⟨_, rfl, iteF ?_⟩
      refine ⟨_, rfl, ⟨_, rfl⟩, _, " ", rfl, rfl, by decide +kernel, hl, fun r1 nr1 => ?_⟩
      have e : Txt.split l " " = w :: r := e
      rw [e]
      have S1 : Same H (upd H r1 (.lst ((w :: r).map V.str))) := Same.new nr1
      have h1 : upd H r1 (.lst ((w :: r).map V.str)) r1 = some (.lst ((w :: r).map V.str)) := upd_same
      generalize upd H r1 (.lst ((w :: r).map V.str)) = H1 at S1 h1 ⊢
      refine ⟨_, rfl, r1, _, _, .str w, rfl, rfl, SqL.of h1, at0', w, none, rfl, T.outN _ h, .inl ⟨rfl, ?_⟩⟩
      refine ⟨_, rfl, rfl, _, rfl, iteT' (by rfl) ?_⟩
      refine iteT ?_
      exact ⟨by show 0 ≤ sizeLine; decide, fun t nt => kt rfl t _ (S1.trans (Same.new nt)) (S1.free nt) upd_same⟩
    | @many ws s e h =>
      rw [s]
      refine ⟨_, rfl, iteF ?_⟩
      refine ⟨_, rfl, ⟨_, rfl⟩, _, " ", rfl, rfl, by decide +kernel, hl, fun r1 nr1 => ?_⟩
      have e2 : Txt.split l " " = sBegin :: ws := e
      rw [e2]
      have S1 : Same H (upd H r1 (.lst ((sBegin :: ws).map V.str))) := Same.new nr1
      have h1 : upd H r1 (.lst ((sBegin :: ws).map V.str)) r1 = some (.lst ((sBegin :: ws).map V.str)) := upd_same
      generalize upd H r1 (.lst ((sBegin :: ws).map V.str)) = H1 at S1 h1 ⊢
      obtain ⟨pO, eO, hO⟩ := T.outer ("begin", ["word"]) (by simp [otab])
      refine ⟨_, rfl, r1, _, _, .str sBegin, rfl, rfl, SqL.of h1, at0', sBegin, _, rfl, eO, .inr ⟨_, .ref pO, rfl, rfl, ?_⟩⟩
      refine ⟨_, rfl, rfl, _, rfl, iteF' (by rfl) ?_⟩
      refine ⟨_, rfl, r1, _, rfl, .inl (SqL.of h1), _, rfl, pO, _, rfl, .inr (hO _), _, _, rfl, rfl, rfl, _, rfl, ?_⟩
      have en : (!decide (V.int (((sBegin :: ws).map V.str).length : Int) = V.int (1 + (((["word"] : List Str).map V.str).length : Int)))) = true := by
        rw [Bool.not_eq_true', decide_eq_false_iff_not]
        intro z
        have z := V.int.inj z
        rw [List.length_map, List.length_map, List.length_cons, List.length_singleton] at z
        exact h (by omega)
      refine iteT' en ?_
      exact ⟨by show 0 ≤ sizeLine; decide, fun t nt => kt rfl t _ (S1.trans (Same.new nt)) (S1.free nt) upd_same⟩
    | @word z s e =>
      rw [s]
      refine ⟨_, rfl, iteF ?_⟩
      refine ⟨_, rfl, ⟨_, rfl⟩, _, " ", rfl, rfl, by decide +kernel, hl, fun r1 nr1 => ?_⟩
      have e2 : Txt.split l " " = [sBegin, z] := e
      rw [e2]
      have S1 : Same H (upd H r1 (.lst ([sBegin, z].map V.str))) := Same.new nr1
      have h1 : upd H r1 (.lst ([sBegin, z].map V.str)) r1 = some (.lst ([sBegin, z].map V.str)) := upd_same
      generalize upd H r1 (.lst ([sBegin, z].map V.str)) = H1 at S1 h1 ⊢
      have zz : z.length ≤ 100 := lz z (by rw [e]; simp)
      obtain ⟨pO, eO, hO⟩ := T.outer ("begin", ["word"]) (by simp [otab])
      refine ⟨_, rfl, r1, _, _, .str sBegin, rfl, rfl, SqL.of h1, at0', sBegin, _, rfl, eO, .inr ⟨_, .ref pO, rfl, rfl, ?_⟩⟩
      refine ⟨_, rfl, rfl, _, rfl, iteF' (by rfl) ?_⟩
      refine ⟨_, rfl, r1, _, rfl, .inl (SqL.of h1), _, rfl, pO, _, rfl, .inr (hO _), _, _, rfl, rfl, rfl, _, rfl, ?_⟩
      refine iteF' (by rfl) ?_
      -- all of the words fit
      refine ⟨_, rfl, _, rfl, 1, rfl, r1, _, rfl, SqL.of h1, fun r2 nr2 => ?_⟩
      have ec : cutV ([sBegin, z].map V.str) (some 1) none = [V.str z] := cut1
      rw [ec]
      have S2 : Same H1 (upd H1 r2 (.lst [.str z])) := Same.new nr2
      have h2 : upd H1 r2 (.lst [.str z]) r2 = some (.lst [.str z]) := upd_same
      have h12 := S2 _ _ h1
      generalize upd H1 r2 (.lst [.str z]) = H2 at S2 h2 h12 ⊢
      refine ⟨pO, r2, _, _, rfl, hO _, SqL.of h2, fun D nD => ?_⟩
      have r2D : r2 ≠ D := ne_of_none h2 nD
      have r1D : r1 ≠ D := ne_of_none h12 nD
      refine lc_it (walk_zipM (K := K) (a := pO) (b := r2) (xs := [.str "word"]) (ys := [.str z]) (n := 1) rfl) (fun i H' => Same H2 H' ∧ H' D = some (.lst (([isWord z].take i).map V.bl))) ⟨Same.new nD, upd_same⟩ (fun i H' _ q => ⟨hO _, SqL.of (q.1 _ _ h2)⟩) (fun i x H3 H4 hi q y => ?_) (fun H3 q => ?_)
      · obtain ⟨S3, hD⟩ := q
        obtain ⟨T2, u, v, rfl, nT2, rfl, hu, hv⟩ := y
        have i0 : i = 0 := by omega
        subst i0
        have hu : some (V.str "word") = some u := hu
        have hv : some (V.str z) = some v := hv
        cases hu
        cases hv
        refine ⟨T2, _, rfl, SqT.of upd_same, rfl, _, _, rfl, _, _, rfl, rfl, ?_⟩
        have S4 := S3.trans (Same.new (o := .tup [.str "word", .str z]) nT2)
        have hD4 := Same.new (o := .tup [.str "word", .str z]) nT2 _ _ hD
        generalize upd H3 T2 (.tup [.str "word", .str z]) = H5 at S4 hD4 ⊢
        refine ⟨rfl, ?_⟩
        refine tYes_ ?_
        refine iteT ?_
        refine ⟨_, rfl, _, rfl, z, rfl, by rw [sizeLine_eq]; omega, fun H6 S6 => ?_⟩
        refine ⟨_, S6 _ _ hD4, by show 0 < sizeLine; decide, fun b o hb => ?_, upd_same⟩
        rw [upd_ne (ne_of_none hb nD)]
        exact S6 _ _ (S4 _ _ hb)
      · obtain ⟨S3, hD⟩ := q
        refine ⟨D, [isWord z], rfl, SqL.of hD, _, rfl, ?_⟩
        have h13 := S3 _ _ h12
        have S03 := (S1.trans S2).trans S3
        cases ez : isWord z with
        | false =>
          refine iteT' (by rfl) ?_
          rw [ez] at kt
          exact ⟨by show 0 ≤ sizeLine; decide, fun t nt => kt rfl t _ (S03.trans (Same.new nt)) (S03.free nt) upd_same⟩
        | true =>
          refine iteF' (by rfl) ?_
          rw [ez] at kf
          -- the parts
          refine ⟨_, rfl, _, rfl, 1, rfl, r1, _, rfl, SqL.of h13, fun r3 nr3 => ?_⟩
          rw [ec]
          have S4 : Same H3 (upd H3 r3 (.lst [.str z])) := Same.new nr3
          have h4 : upd H3 r3 (.lst [.str z]) r3 = some (.lst [.str z]) := upd_same
          have h14 := S4 _ _ h13
          generalize upd H3 r3 (.lst [.str z]) = H4 at S4 h4 h14 ⊢
          refine ⟨pO, r3, _, _, rfl, hO _, SqL.of h4, fun D2 nD2 => ?_⟩
          refine lc_it (walk_zipM (K := K) (a := pO) (b := r3) (xs := [.str "word"]) (ys := [.str z]) (n := 1) rfl) (fun i H' => Same H4 H' ∧ H' D2 = some (.lst (([V.str z].take i)))) ⟨Same.new nD2, upd_same⟩ (fun i H' _ q => ⟨hO _, SqL.of (q.1 _ _ h4)⟩) (fun i x H5 H6 hi q y => ?_) (fun H5 q => ?_)
          · obtain ⟨S5, hD⟩ := q
            obtain ⟨T2, u, v, rfl, nT2, rfl, hu, hv⟩ := y
            have i0 : i = 0 := by omega
            subst i0
            have hu : some (V.str "word") = some u := hu
            have hv : some (V.str z) = some v := hv
            cases hu
            cases hv
            refine ⟨T2, _, rfl, SqT.of upd_same, rfl, _, _, rfl, _, _, rfl, rfl, ?_⟩
            have S6 := S5.trans (Same.new (o := .tup [.str "word", .str z]) nT2)
            have hD6 := Same.new (o := .tup [.str "word", .str z]) nT2 _ _ hD
            generalize upd H5 T2 (.tup [.str "word", .str z]) = H7 at S6 hD6 ⊢
            refine ⟨rfl, ?_⟩
            refine tYes_ ?_
            refine iteT ?_
            refine ⟨_, rfl, rfl, _, rfl, iteF' (by decide +kernel) ?_⟩
            refine ⟨_, rfl, _, hD6, by show 0 < sizeLine; decide, fun b o hb => ?_, upd_same⟩
            rw [upd_ne (ne_of_none hb nD2)]
            exact S6 _ _ hb
          · obtain ⟨S5, hD2⟩ := q
            have h15 := S5 _ _ h14
            refine ⟨_, rfl, r1, _, _, .str sBegin, rfl, rfl, SqL.of h15, at0', by show 1 ≤ sizeLine; decide, fun q nq => ?_⟩
            have S6 : Same H5 (upd H5 q (.tup [.str sBegin])) := Same.new nq
            have hq : upd H5 q (.tup [.str sBegin]) q = some (.tup [.str sBegin]) := upd_same
            have hD6 := S6 _ _ hD2
            generalize upd H5 q (.tup [.str sBegin]) = H6 at S6 hq hD6 ⊢
            refine ⟨_, rfl, D2, _, rfl, .inl ⟨SqL.of hD6, fun q2 nq2 => ?_⟩⟩
            have S7 : Same H6 (upd H6 q2 (.tup [.str z])) := Same.new nq2
            refine ⟨q, q2, [.str sBegin], [.str z], rfl, rfl, SqT.of (S7 _ _ hq), SqT.of upd_same, by simp, by show 2 ≤ sizeLine; decide, fun z => by simp at z, fun _ t nt => ?_⟩
            have SA := ((((S03.trans S4).trans S5).trans S6).trans S7)
            exact kf rfl t _ z (SA.trans (Same.new nt)) (SA.free nt) upd_same

end
end OR

set_option Elab.async false
set_option maxRecDepth 100000
set_option maxHeartbeats 8000000
set_option linter.all false
namespace OR
open PySem PySem.Spec PyProof.Rows L2 TS2
structure LineOk (l : Str) (b : Bool) : Prop where
  z : l.length + 2 ≤ sizeLine
  is : LineIs l b
  w : ∀ x ∈ splS l, x.length ≤ 100
  n : (splS l).length ≤ 100
/-- the first bad line -/
def BadAt (ls : List Str) (n : Nat) : Prop := n < ls.length ∧ ∀ i, i ≤ n → ∀ l, ls[i]? = some l → LineOk l (decide (i = n))
def spReadHist (K : PySem.W.Frag) : Sp := fun vs H _ E => ∃ v, vs = [v] ∧ ((NoStrT K H v ∧ Rz (cIA K) [("part", .str "text")] (fun _ => False) H E) ∨
  ∃ (t : Str) (n : Nat), v = .str t ∧ t.length + 2 ≤ sizeLine ∧ BadAt (Txt.split t "\n") n ∧ n ≤ 100 ∧ Rz (cIT K) [("line", .int ((n + 1 : Nat) : Int))] (fun _ => False) H E)
section
variable {P : Program} {w : World} {K : PySem.W.Frag} {mg : Str → Option Value} {base : Heap}
theorem ok_read_history {f : Addr} {fd : FuncData} (F : FnP K "read_history" "read_history" s_read_history f fd) (T : Tx w K mg) (E_InvalidArgument : ErrDef P w K mg base CX0 1 "InvalidArgument" (cIA K) ["self", "part"] ["part"]) (E_InvalidText : ErrDef P w K mg base CX0 1 "InvalidText" (cIT K) ["self", "line"] ["line"])
    (G_token_of : Def P w K mg base CX0 3 "token_of" p_token_of (spTokenOf K)) (G_cut : Def P w K mg base (L2.CX P w) 3 "cut" p_cut (spCut K)) : FnOk P w K mg base (L2.CX P w) 4 f fd p_read_history (spReadHist K) := by
  refine F.ok sc_read_history (fun vs H Q E h => ?_) (fun cdv A outer s H vs Q E hr h => ?_)
  · obtain ⟨v, rfl, _⟩ := h
    rfl
  · obtain ⟨v, rfl, h⟩ := h
    refine ⟨_, (pss_cons (ps_if (pt_not (pt_val (pe_callB call_isi (by rfl) T.b_isinstance (by decide +kernel) (pa_cons (pv 0) (pa_cons (pe_bltn (v := .ty "str") (u := .type "str") (by rfl) T.b_str (by decide +kernel) rfl) pa_nil))))) (pss_one (ps_raise rfl (takes_of rfl rfl rfl rfl) (pmk_errL E_InvalidArgument (hr.mono (by omega)) (by rfl) pass0 (pa_cons pe_str pa_nil)))) pss_nil)
      (pss_cons (ps_set (i := 1) sc_read_history.nd rfl (.inl rfl) (pe_lst pa_nil))
      (pss_cons (ps_for (passes_of rfl) rfl (pi_enum (by rfl) T.b_enumerate (pa_cons (pe_split (pv 0) pe_str) pa_nil)) (pg_tup (by rfl) (pgs_cons (pg_name (i := 2) sc_read_history.nd rfl (.inl rfl)) (pgs_cons (pg_name (i := 3) sc_read_history.nd rfl (.inl rfl)) pgs_nil))) (pss_cons (ps_set (i := 4) sc_read_history.nd rfl (.inl rfl) (pe_fn G_token_of (hr.mono (by omega)) (by rfl) pass0 (pa_cons (pv 3) pa_nil)))
      (pss_cons (ps_if (pt_cmpR op_eq (pe_callB call_len_seq (by rfl) T.b_len PySem.boot_len (pa_cons (pv 4) pa_nil)) pe_int (nomark _)) (pss_one (ps_raise rfl (takes_of rfl rfl rfl rfl) (pmk_errL E_InvalidText (hr.mono (by omega)) (by rfl) pass0 (pa_cons (pe_op op_add (pv 2) pe_int) pa_nil)))) pss_nil)
      (pss_one (ps_expr (pe_bm PySem.F.plainAttrs_list PySem.F.slot_list_append PySem.F.type_list_append mt_append (pv 1) (pa_cons (pv 4) pa_nil)))))))
      (pss_cons (ps_expr (pe_fn G_cut (hr.mono (by omega)) (by rfl) (passes_call (W := fun c d _ H => E c d H) (takes_of rfl rfl rfl rfl) (fun _ _ _ _ h => h)) (pa_cons (pv 1) pa_nil)))
      (pss_one (ps_ret (pv 1))))))), ?_⟩
    rcases h with ⟨⟨ty, n1, n2⟩, ke⟩ | ⟨t, n, rfl, tz, bad, n100, ke⟩
    · refine ⟨_, rfl, v, .ty "str", _, _, false, rfl, .ty _, n1, n2, _, rfl, ?_⟩
      refine iteT ?_
      exact ⟨rfl, fun d0 H' nd hd oth => rz_now ke nd hd oth⟩
    refine ⟨_, rfl, .str t, .ty "str", _, _, true, rfl, .ty _, .base (.str t), kit_ty (by decide +kernel), _, rfl, ?_⟩
    refine iteF ?_
    refine ⟨by show 0 ≤ sizeLine; decide, fun L nL => ?_⟩
    have SL : Same H (upd H L (.lst [])) := Same.new nL
    have hL : upd H L (.lst []) L = some (.lst []) := upd_same
    generalize upd H L (.lst []) = H1 at SL hL ⊢
    refine ⟨_, rfl, ⟨_, rfl⟩, t, "\n", rfl, rfl, by decide +kernel, tz, fun r nr => ?_⟩
    generalize Txt.split t "\n" = ls at bad ⊢
    have Sr : Same H1 (upd H1 r (.lst (ls.map V.str))) := Same.new nr
    have hr2 : upd H1 r (.lst (ls.map V.str)) r = some (.lst (ls.map V.str)) := upd_same
    have hL2 := Sr _ _ hL
    have rL : r ≠ L := fun z => by rw [z, hL] at nr; cases nr
    generalize upd H1 r (.lst (ls.map V.str)) = H2 at Sr hr2 hL2 ⊢
    have S2 := SL.trans Sr
    refine ⟨r, _, rfl, SqL.of hr2, ?_⟩
    refine for_it (walk_enum (K := K) (a := r) (xs := ls.map V.str)) (fun i σ' H' => (∃ x y z, σ' = [some (.str t), some (.ref L), x, y, z]) ∧ Kp (· = L) H2 H' ∧ i ≤ n ∧ ∃ hs, H' L = some (.lst hs) ∧ hs.length = i)
      ⟨⟨_, _, _, rfl⟩, Kp.refl _, Nat.zero_le _, [], hL2, rfl⟩ (fun i σ' H' _ q => SqL.of (q.2.1 _ _ hr2 rL)) (fun i x σ' H3 H4 hi q y => ?_) (fun σ' H3 q => ?_)
    · obtain ⟨⟨x0, y0, z0, rfl⟩, kp, hin, hs, h3, lh⟩ := q
      obtain ⟨T2, u, v, rfl, nT2, rfl, hu, hv⟩ := y
      have hu : some (V.int (i : Nat)) = some u := hu
      cases hu
      have hv : (ls.map V.str)[i]? = some v := hv
      rw [List.getElem?_map] at hv
      cases el : ls[i]? with
      | none => rw [el] at hv; cases hv
      | some l =>
        rw [el] at hv
        cases Option.some.inj hv
        have ok := bad.2 i hin l el
        refine ⟨T2, _, rfl, SqT.of upd_same, rfl, _, _, rfl, _, _, rfl, rfl, ?_⟩
        have S4 : Same H3 (upd H3 T2 (.tup [.int (i : Nat), .str l])) := Same.new nT2
        generalize upd H3 T2 (.tup [.int (i : Nat), .str l]) = H5 at S4 ⊢
        have k5 := kp.trans (Kp.of (C := (· = L)) S4)
        have B5 : Same H H5 := Kp.D S2 k5 nL
        refine ⟨_, rfl, l, decide (i = n), rfl, ok.z, ok.is, ok.w, ok.n, fun e t2 H6 S6 nt2 ht2 => ?_, fun e t2 H6 z S6 nt2 ht2 => ?_⟩
        · refine ⟨_, rfl, t2, _, rfl, .inr (SqT.of ht2), rfl, _, rfl, iteT' (by rfl) ?_⟩
          refine ⟨_, rfl, _, _, rfl, rfl, ?_⟩
          have en : i = n := of_decide_eq_true e
          subst en
          exact ⟨rfl, fun d0 H' nd hd oth => rz_now (Rz.of ke (Kp.of (B5.trans S6)) (fun b nb => (B5.trans S6).free nb) fun b (z : False) => z.elim) nd hd oth⟩
        · refine ⟨_, rfl, t2, _, rfl, .inr (SqT.of ht2), rfl, _, rfl, iteF' (by rfl) ?_⟩
          have ne : i ≠ n := of_decide_eq_false e
          have h6 := S6 _ _ (S4 _ _ h3)
          refine ⟨_, rfl, .inl ⟨rfl, _, SqL.of h6⟩, _, rfl, L, hs, _, rfl, rfl, h6, small1000 (by omega), ?_⟩
          exact ⟨⟨_, _, _, rfl⟩, (k5.trans (Kp.of S6)).trans (Kp.put rfl), by omega, _, upd_same, by simp [lh]⟩
    · obtain ⟨_, _, hin, _⟩ := q
      rw [List.length_map] at hin
      exact absurd bad.1 (by omega)
end
end OR

set_option Elab.async false
set_option maxRecDepth 100000
set_option maxHeartbeats 4000000
set_option linter.all false
/-! a word of our own: isinstance of a caught error that holds fields -/
namespace L2
open PySem PySem.Spec PyProof.Rows
def rIsX (K : PySem.W.Frag) (cls : Value) (d : Option Addr) (a : Addr) : List V → Hp → VK → Prop := fun xs H Q => ∃ (D dd : Addr) (c : V) (cv : Value) (b : Bool) (fs : List (Str × V)),
  cls = .ref D ∧ d = some dd ∧ ExcC K D ∧ H dd = some (.xd fs) ∧ xs = [.ref a, c] ∧ (∀ u, RelV c u → u = cv) ∧ PySem.W.kitOne K (.ref D) cv = some b ∧ Q (.bl b) H
theorem call_isX {X : Cx} {a : Addr} {oe : Obj} {cls : Value} {d : Option Addr} {pn : List (Addr × Obj)} (hz : Zc cls d oe) (hf : ∃ vs, oe.data = .fields vs) : CallR (X.suite a ((a, oe) :: pn)) (.builtin "isinstance") (rIsX X.K cls d a) := by
  intro pins s σ H xs us Q I r h
  obtain ⟨D, dd, c, cv, b, fs, rfl, rfl, C, hd, rfl, hcv, e, q⟩ := h
  cases r with
  | cons rx rr =>
    cases rr with
    | cons rt rr =>
      cases rr
      cases rx
      have ec := hcv _ rt
      subst ec
      obtain ⟨hget, _⟩ := I.pin (a, oe) (List.mem_append.mpr (.inl List.mem_cons_self))
      obtain ⟨vs, hv⟩ := hf
      have hx : ObjOk X.prog X.w H s.heap dd (.xd fs) := I.hok dd _ hd
      obtain ⟨mA, hns, _⟩ := hx
      obtain ⟨od, ho, _⟩ := lookIn_ns hns
      have J : PySem.W.InstAt s.heap a oe D (some od) := ⟨hget, hz.1, by unfold PySem.W.notCls; rw [hv] <;> rfl, by rw [hz.2]; exact ho⟩
      have hcl : (PySem.W.clsIn X.K D).isSome = true := by
        have := C.hd
        unfold PySem.W.hasDictIn at this
        revert this
        cases PySem.W.clsIn X.K D <;> simp
      exact PySem.W.kia_one (PySem.W.kitx_exc hcl C.hg C.hk C.hs C.ha C.hn C.ht C.hm) I.kIn J e (fun z => nomatch z) fun tk => ⟨.bl b, H, I.kept (t' := tk) fun _ _ z => z, rfl, q⟩
end L2

set_option Elab.async false
set_option maxRecDepth 100000
set_option maxHeartbeats 4000000
set_option linter.all false
namespace OR
open PySem PySem.Spec PyProof.Rows L2 TS2
/-! ### the pool of draws -/
def poolK (b s c : Int) : List (Key × V) := [(.inr "big", .int b), (.inr "seed", .int s), (.inr "k", .int c)]
/-- a pool stands at p -/
def PoolAt (H : Hp) (p : Addr) : Prop := ∃ b s c : Int, H p = some (.dK (poolK b s c))
theorem nBS : ¬ (("big" : Str) = "seed") := by decide +kernel
theorem nBC : ¬ (("big" : Str) = "k") := by decide +kernel
theorem nSC : ¬ (("seed" : Str) = "k") := by decide +kernel
theorem kne {x y : Str} (h : ¬ x = y) : ¬ (Sum.inr x : Key) = Sum.inr y := fun e => h (Sum.inr.inj e)
theorem dg_big {H : Hp} {p : Addr} {b s c : Int} (h : H p = some (.dK (poolK b s c))) : DGet H p (.str "big") (some (.int b)) := by
  have e : valV (poolK b s c) (.inr "big" : Key) = some (.int b) := valV_pos rfl
  rw [← e]
  exact DGet.k (k := .inr "big") h
theorem dg_seed {H : Hp} {p : Addr} {b s c : Int} (h : H p = some (.dK (poolK b s c))) : DGet H p (.str "seed") (some (.int s)) := by
  have e : valV (poolK b s c) (.inr "seed" : Key) = some (.int s) := (valV_neg (kne nBS)).trans (valV_pos rfl)
  rw [← e]
  exact DGet.k (k := .inr "seed") h
theorem dg_k54 {H : Hp} {p : Addr} {b s c : Int} (h : H p = some (.dK (poolK b s c))) : DGet H p (.str "k") (some (.int c)) := by
  have e : valV (poolK b s c) (.inr "k" : Key) = some (.int c) := (valV_neg (kne nBC)).trans ((valV_neg (kne nSC)).trans (valV_pos rfl))
  rw [← e]
  exact DGet.k (k := .inr "k") h
theorem dp_big {H : Hp} {p : Addr} {b s c z : Int} (h : H p = some (.dK (poolK b s c))) : DPut H p (.str "big") (.int z) (upd H p (.dK (poolK z s c))) := by
  have e : putK (poolK b s c) (.inr "big" : Key) (.int z) = poolK z s c := by
    simp [putK, poolK, (kne nBS), (kne nBC), Ne.symm (kne nBS), Ne.symm (kne nBC)]
  rw [← e]
  exact DPut.k (k := .inr "big") h (small1000 (by show 3 ≤ 1000; decide))
theorem dp_k54 {H : Hp} {p : Addr} {b s c z : Int} (h : H p = some (.dK (poolK b s c))) : DPut H p (.str "k") (.int z) (upd H p (.dK (poolK b s z))) := by
  have e : putK (poolK b s c) (.inr "k" : Key) (.int z) = poolK b s z := by
    simp [putK, poolK, (kne nSC), (kne nBC), Ne.symm (kne nSC), Ne.symm (kne nBC)]
  rw [← e]
  exact DPut.k (k := .inr "k") h (small1000 (by show 3 ≤ 1000; decide))
def spPool (K : PySem.W.Frag) : Sp := fun vs H Q _ => ∃ (a : Addr) (ns : List Int) (k : Int), vs = [.ref a, .int k] ∧ SqL K H a (ns.map V.int) ∧ 0 ≤ k ∧ ns.length ≤ 63 ∧
  ∀ (p : Addr) (b s c : Int), H p = none → Q (.ref p) (upd H p (.dK (poolK b s c)))
def spDraw : Sp := fun vs H Q _ => ∃ (p : Addr) (m b s c : Int), vs = [.ref p, .int m] ∧ H p = some (.dK (poolK b s c)) ∧ 1 ≤ m ∧ m < 1000000 ∧
  ∀ d b' s' c' : Int, 0 ≤ d → d < m → Q (.int d) (upd H p (.dK (poolK b' s' c')))
section
variable {P : Program} {w : World} {K : PySem.W.Frag} {mg : Str → Option Value} {base : Heap}
abbrev nPool : List Str := ["_law_script", "_law_k", "_law_cell", "_law_big"]
abbrev nDraw : List Str := ["_law_pool_here", "_law_many", "_law_digit", "_law_one", "_law_two"]
theorem scPool : FnScope nPool ["_law_script", "_law_k"] (defScope s__law_pool) := ⟨rfl, rfl, rfl, by decide +kernel, rfl, by decide +kernel, by decide +kernel⟩
theorem scDraw : FnScope nDraw ["_law_pool_here", "_law_many"] (defScope s__law_draw) := ⟨rfl, rfl, rfl, by decide +kernel, rfl, by decide +kernel, by decide +kernel⟩
theorem ok_draw {f : Addr} {fd : FuncData} (F : FnP K "_law_draw" "_law_draw" s__law_draw f fd) (gInt : mg "int" = none) : FnOk P w K mg base CX0 1 f fd ["_law_pool_here", "_law_many"] spDraw := by
  refine F.ok scDraw (fun vs H Q E h => ?_) (fun cdv A outer s H vs Q E hr h => ?_)
  · obtain ⟨p, m, b, s, c, rfl, _⟩ := h
    rfl
  · obtain ⟨p, m, b, s, c, rfl, hp, m1, m2, k⟩ := h
    have hu := hu_of hr
    refine ⟨_, PSs.nox (pss_cons (ps_dput hu (pv 0) pe_str (pe_op op_add (pe_dget hu (pv 0) pe_str (fun _ _ => rfl)) pe_int) rfl)
      (pss_cons (ps_if (pt_cmpR op_gt (pe_dget hu (pv 0) pe_str (fun _ _ => rfl)) pe_int (nomark _))
        (pss_cons (ps_set (i := 2) scDraw.nd rfl (.inl rfl) (pe_op op_modN (pe_callTy call_int1 (by rfl) gInt (by decide +kernel) (pa_cons (pe_dget hu (pv 0) pe_str (fun _ _ => rfl)) pa_nil)) (pv 1)))
        (pss_cons (ps_dput hu (pv 0) pe_str (pe_op op_fdivN (pe_dget hu (pv 0) pe_str (fun _ _ => rfl)) (pv 1)) rfl)
        (pss_one (ps_ret (pv 2))))) pss_nil)
      (pss_cons (ps_set (i := 3) scDraw.nd rfl (.inl rfl) (pe_op op_add (pe_op op_modN (pe_callTy call_int1 (by rfl) gInt (by decide +kernel) (pa_cons
          (pe_op op_add (pe_op op_add (pe_op op_mul (pe_dget hu (pv 0) pe_str (fun _ _ => rfl)) pe_int) (pe_op op_mul (pe_dget hu (pv 0) pe_str (fun _ _ => rfl)) pe_int)) pe_int) pa_nil)) pe_int) pe_int))
      (pss_cons (ps_set (i := 4) scDraw.nd rfl (.inl rfl) (pe_op op_modN (pe_callTy call_int1 (by rfl) gInt (by decide +kernel) (pa_cons
          (pe_op op_mul (pv 3) (pe_op op_add (pe_op op_fdivN (pv 3) pe_int) pe_int)) pa_nil)) pe_int))
      (pss_cons (ps_set (i := 4) scDraw.nd rfl (.inl rfl) (pe_op op_modN (pe_callTy call_int1 (by rfl) gInt (by decide +kernel) (pa_cons
          (pe_op op_mul (pv 4) (pe_op op_add (pe_op op_fdivN (pv 4) pe_int) pe_int)) pa_nil)) pe_int))
      (pss_one (ps_ret (pe_op op_modN (pe_callTy call_int1 (by rfl) gInt (by decide +kernel) (pa_cons (pe_op op_fdivN (pv 4) pe_int) pa_nil)) (pv 1))))))))), ?_⟩
    -- the k54 goes on
    refine ⟨_, rfl, p, _, rfl, dg_k54 hp, _, _, rfl, rfl, _, rfl, p, _, rfl, dp_k54 hp, ?_⟩
    have h1 : upd H p (.dK (poolK b s (c + 1))) p = some (.dK (poolK b s (c + 1))) := upd_same
    refine ⟨_, rfl, p, _, rfl, dg_big h1, _, _, rfl, rfl, _, rfl, ?_⟩
    refine ite2 (fun hb => ?_) fun hb => ?_
    · refine ⟨_, rfl, p, _, rfl, dg_big h1, .inl ⟨_, rfl, _, rfl, _, _, rfl, rfl, by omega, ?_⟩⟩
      refine ⟨_, rfl, p, _, rfl, dg_big h1, _, rfl, _, _, rfl, rfl, ⟨by omega, by omega⟩, _, rfl, p, _, rfl, dp_big h1, _, rfl, ?_⟩
      rw [upd_upd]
      exact k _ _ _ _ (Int.fmod_nonneg_of_pos _ (by omega)) (Int.fmod_lt_of_pos _ (by omega))
    · refine ⟨_, rfl, p, _, rfl, dg_seed h1, ?_⟩
      refine ⟨_, _, rfl, rfl, .inr ⟨by omega, by omega⟩, ?_⟩
      refine ⟨_, rfl, p, _, rfl, dg_k54 h1, _, _, rfl, rfl, .inr ⟨by omega, by omega⟩, _, _, rfl, rfl, _, _, rfl, rfl, .inl ⟨_, rfl, _, _, rfl, rfl, (by show (2147483629 : Int) ≠ 0; decide), _, _, rfl, rfl, ?_⟩⟩
      generalize hx : (s * 48271 + (c + 1) * 7919 + 30103).fmod 2147483629 = x1
      have x1a : 0 ≤ x1 := by rw [← hx]; exact Int.fmod_nonneg_of_pos _ (by decide)
      have x1b : x1 < 2147483629 := by rw [← hx]; exact Int.fmod_lt_of_pos _ (by decide)
      refine ⟨_, rfl, _, rfl, _, _, rfl, rfl, ⟨by decide, by decide⟩, _, _, rfl, rfl, _, _, rfl, rfl, .inl ⟨by omega, by omega⟩, .inl ⟨_, rfl, _, _, rfl, rfl, (by show (2147483647 : Int) ≠ 0; decide), ?_⟩⟩
      generalize hy : ((x1 + 1) * ((x1 + 1).fdiv 1009 + 69621)).fmod 2147483647 = x2
      have x2a : 0 ≤ x2 := by rw [← hy]; exact Int.fmod_nonneg_of_pos _ (by decide)
      have x2b : x2 < 2147483647 := by rw [← hy]; exact Int.fmod_lt_of_pos _ (by decide)
      refine ⟨_, rfl, _, rfl, _, _, rfl, rfl, ⟨by decide, by decide⟩, _, _, rfl, rfl, _, _, rfl, rfl, .inl ⟨by omega, by omega⟩, .inl ⟨_, rfl, _, _, rfl, rfl, (by show (2147483399 : Int) ≠ 0; decide), ?_⟩⟩
      refine ⟨_, rfl, _, _, rfl, rfl, ⟨by decide, by decide⟩, .inl ⟨_, rfl, _, rfl, _, _, rfl, rfl, by omega, ?_⟩⟩
      exact k _ _ _ _ (Int.fmod_nonneg_of_pos _ (by omega)) (Int.fmod_lt_of_pos _ (by omega))
theorem ok_pool {f : Addr} {fd : FuncData} (F : FnP K "_law_pool" "_law_pool" s__law_pool f fd) (gInt : mg "int" = none) (gLen : mg "len" = none) : FnOk P w K mg base CX0 1 f fd ["_law_script", "_law_k"] (spPool K) := by
  refine F.ok scPool (fun vs H Q E h => ?_) (fun cdv A outer s H vs Q E hr h => ?_)
  · obtain ⟨a, ns, k, rfl, _⟩ := h
    rfl
  · obtain ⟨a, ns, k, rfl, hs, k0, hl, q⟩ := h
    have hu := hu_of hr
    refine ⟨_, PSs.nox (pss_cons (ps_set (i := 2) scPool.nd rfl (.inl rfl) pe_int)
      (C8.pss_cut (ps_if (pt_cmpR op_lt (pv 1) (pe_callB call_len_seq (by rfl) gLen PySem.boot_len (pa_cons (pv 0) pa_nil)) (nomark _))
        (pss_one (ps_set (i := 2) scPool.nd rfl (.inl rfl) (pe_callTy call_int1 (by rfl) gInt (by decide +kernel) (pa_cons (pe_ix ix_list (pv 0) (pv 1) (fun _ _ => rfl)) pa_nil)))) pss_nil)
      (pss_cons (ps_set (i := 3) scPool.nd rfl (.inl rfl) pe_int)
      (C8.pss_cut (ps_if (pt_cmpR op_ge (pv 2) (pe_op op_pow pe_int pe_int) (nomark _))
        (pss_one (ps_set (i := 3) scPool.nd rfl (.inl rfl) (pe_op op_modN (pe_callTy call_int1 (by rfl) gInt (by decide +kernel) (pa_cons (pv 2) pa_nil)) (pe_op op_powW (pe_op op_pow pe_int pe_int) pe_int)))) pss_nil)
      (pss_one (ps_ret (pe_disp (pps_cons pe_str (pv 3) (pps_cons pe_str (pe_op op_modN (pe_callTy call_int1 (by rfl) gInt (by decide +kernel) (pa_cons (pv 2) pa_nil)) pe_int)
        (pps_cons pe_str (pe_op op_mul pe_int (pv 1)) pps_nil))) (by rfl) (by rfl) (fun z => by cases z) (by decide)))))))), ?_⟩
    refine ⟨fun σ' H' => H' = H ∧ ∃ z : Int, σ' = [some (.ref a), some (.int k), some (.int z), none], ?_, ?_⟩
    · refine ⟨_, rfl, _, rfl, a, _, rfl, .inl hs, _, _, rfl, rfl, _, rfl, ?_⟩
      refine ite2 (fun hk => ?_) fun hk => ⟨rfl, 0, rfl⟩
      have hk' : k < ((ns.map V.int).length : Int) := of_decide_eq_true hk
      obtain ⟨j, rfl⟩ := Int.eq_ofNat_of_zero_le k0
      have hj : j < ns.length := by simpa using hk'
      exact ⟨_, rfl, _, rfl, a, _, _, V.int (ns[j]'hj), rfl, rfl, hs, atI_nat (by simp [hj]), .inl ⟨_, rfl, rfl, _, rfl⟩⟩
    · rintro σ' H' ⟨rfl, z, rfl⟩
      refine ⟨fun σ' H2 => H2 = H' ∧ ∃ b : Int, σ' = [some (.ref a), some (.int k), some (.int z), some (.int b)], ?_, ?_⟩
      · refine ⟨_, rfl, _, _, rfl, rfl, ⟨by decide, by decide, by decide⟩, _, _, rfl, rfl, _, rfl, ?_⟩
        refine ite2 (fun _ => ?_) fun _ => ⟨rfl, 0, rfl⟩
        refine ⟨_, rfl, .inl ⟨_, rfl, _, _, rfl, rfl, ⟨by decide, by decide, by decide⟩, _, _, rfl, rfl, ?_, _, _, rfl, rfl, ?_, rfl, _, rfl⟩⟩
        · exact ⟨by decide +kernel, by decide, by decide⟩
        · show ((10 : Int) ^ 50) ^ 8 ≠ 0
          decide +kernel
      · rintro σ' H2 ⟨rfl, b, rfl⟩
        intro p np
        refine ⟨_, rfl, _, rfl, .inl ⟨_, rfl, _, _, rfl, rfl, (by show (2147483647 : Int) ≠ 0; decide), ?_⟩⟩
        refine ⟨_, rfl, _, _, rfl, rfl, .inl ⟨by decide, by decide⟩, ?_⟩
        refine ⟨upd_same, poolK b (z.fmod 2147483647) (7 * k), rfl, by show 3 ≤ 15; decide, ?_⟩
        have e : mergeK [] (poolK b (z.fmod 2147483647) (7 * k)) = poolK b (z.fmod 2147483647) (7 * k) := by
          simp [mergeK, putK, poolK, (kne nSC), (kne nBC), Ne.symm (kne nSC), Ne.symm (kne nBC), kne nBS, Ne.symm (kne nBS)]
        rw [e, upd_upd]
        exact q p _ _ _ np
end
end OR

set_option Elab.async false
set_option maxRecDepth 100000
set_option maxHeartbeats 4000000
set_option linter.all false
namespace OR
open PySem PySem.Spec PyProof.Rows L2 TS2
/-- the pool moved on, all else stands -/
structure Adv (p : Addr) (H H' : Hp) : Prop where
  k : Kp (· = p) H H'
  p : PoolAt H' p
  f : ∀ b, H' b = none → H b = none
theorem Adv.refl {p : Addr} {H : Hp} (h : PoolAt H p) : Adv p H H := ⟨Kp.refl _, h, fun _ e => e⟩
theorem Adv.trans {p : Addr} {H H1 H2 : Hp} (a : Adv p H H1) (b : Adv p H1 H2) : Adv p H H2 := ⟨a.k.trans b.k, b.p, fun c e => a.f c (b.f c e)⟩
theorem PoolAt.of {p : Addr} {H H' : Hp} (h : PoolAt H p) (s : Same H H') : PoolAt H' p := by obtain ⟨x, y, z, h⟩ := h; exact ⟨x, y, z, s _ _ h⟩
theorem Adv.same {p : Addr} {H H1 H2 : Hp} (a : Adv p H H1) (s : Same H1 H2) : Adv p H H2 := ⟨a.k.trans (Kp.of s), a.p.of s, fun c e => a.f c (s.free e)⟩
theorem Adv.of {p : Addr} {H H1 : Hp} (h : PoolAt H p) (s : Same H H1) : Adv p H H1 := (Adv.refl h).same s
/-- what is no dict stands -/
theorem Adv.at_ {p b : Addr} {H H' : Hp} {o : HO} (a : Adv p H H') (h : H b = some o) (hp : PoolAt H p) (t : ∀ kvs, o ≠ .dK kvs) : H' b = some o := a.k b o h fun z => by
  obtain ⟨_, _, _, e⟩ := hp
  subst z
  rw [e] at h
  cases h
  exact t _ rfl
theorem draw_k {p : Addr} {m : Nat} {H : Hp} {Q : VK} {E : XK} (hp : PoolAt H p) (m1 : 1 ≤ m) (m2 : m < 1000000) (k : ∀ (d : Nat) (H' : Hp), d < m → Adv p H H' → Q (.int d) H') : spDraw [.ref p, .int m] H Q E := by
  obtain ⟨b, s, c, h⟩ := hp
  refine ⟨p, m, b, s, c, rfl, h, by omega, by omega, fun d b' s' c' d0 d1 => ?_⟩
  obtain ⟨n, rfl⟩ := Int.eq_ofNat_of_zero_le d0
  refine k n _ (by omega) ⟨fun x o e n => by rw [upd_ne n]; exact e, ⟨_, _, _, upd_same⟩, fun x e => ?_⟩
  by_cases z : x = p
  · rw [z, upd_same] at e; cases e
  · rw [upd_ne z] at e; exact e
/-! ### the lines that the law makes -/
def linesFrom : Nat → List Nat → List Str
  | _, [] => []
  | v, k :: ks => lineOf v k :: linesFrom (v + 1) ks
def linesOf (ks : List Nat) : List Str := sI :: sR :: linesFrom 1 ks
theorem linesFrom_app (v : Nat) (ks : List Nat) (k : Nat) : linesFrom v (ks ++ [k]) = linesFrom v ks ++ [lineOf (v + ks.length) k] := by
  induction ks generalizing v with
  | nil => rfl
  | cons x ks ih =>
    show lineOf v x :: linesFrom (v + 1) (ks ++ [k]) = lineOf v x :: (linesFrom (v + 1) ks ++ [lineOf (v + (ks.length + 1)) k])
    rw [ih]
    have e : v + 1 + ks.length = v + (ks.length + 1) := by omega
    rw [e]
theorem linesOf_app (ks : List Nat) (k : Nat) : linesOf (ks ++ [k]) = linesOf ks ++ [lineOf (ks.length + 1) k] := by
  unfold linesOf
  rw [linesFrom_app, Nat.add_comm 1]
  rfl
theorem linesFrom_len (v : Nat) (ks : List Nat) : (linesFrom v ks).length = ks.length := by
  induction ks generalizing v with
  | nil => rfl
  | cons x ks ih => show (linesFrom (v + 1) ks).length + 1 = ks.length + 1; rw [ih]
theorem linesOf_len (ks : List Nat) : (linesOf ks).length = 2 + ks.length := by
  show (linesFrom 1 ks).length + 1 + 1 = _
  rw [linesFrom_len]
  omega
theorem linesFrom_at (v : Nat) (ks : List Nat) (i k : Nat) (h : ks[i]? = some k) : (linesFrom v ks)[i]? = some (lineOf (v + i) k) := by
  induction ks generalizing v i with
  | nil => simp at h
  | cons x ks ih =>
    cases i with
    | zero =>
      cases Option.some.inj h
      rfl
    | succ i =>
      have := ih (v + 1) i h
      show (linesFrom (v + 1) ks)[i]? = _
      rw [this]
      have e : v + 1 + i = v + (i + 1) := by omega
      rw [e]
theorem linesOf_at (ks : List Nat) (i k : Nat) (h : ks[i]? = some k) : (linesOf ks)[2 + i]? = some (lineOf (i + 1) k) := by
  have e : (linesOf ks)[2 + i]? = (linesFrom 1 ks)[i]? := by
    show (sI :: sR :: linesFrom 1 ks)[2 + i]? = _
    rw [Nat.add_comm]
    rfl
  rw [e, linesFrom_at 1 ks i k h, Nat.add_comm 1]
theorem nest_lines (ks : List Nat) (h : ∀ k ∈ ks, k < 3) : NestLines (linesOf ks) ks := ⟨linesOf_len ks, fun i k e => ⟨h k (List.mem_of_getElem? e), linesOf_at ks i k e⟩⟩
theorem kdT_len : ∀ k, k < 3 → (kdT k).length ≤ 6 := by decide +kernel
theorem lineOf_len (v k : Nat) (h : k < 3) : (lineOf v k).length ≤ 2 * v + 6 := by
  unfold lineOf
  have e : (rpt "  " v ++ kdT k).length = (rpt "  " v).length + (kdT k).length := by
    show (Array.append _ _).size = _
    exact Array.size_append
  have l2 : ("  " : Str).length = 2 := by decide +kernel
  have := kdT_len k h
  rw [e, rpt_len, l2]
  omega
/-- 25 spaces ahead -/
def pad25 : Str := rpt " " 25
theorem pad_lines : ∀ v, v ≤ 12 → ∀ k, k < 3 → cutS (lineOf v k) none (some 25) ≠ pad25 := by decide +kernel
theorem pad_head : cutS sI none (some 25) ≠ pad25 ∧ cutS sR none (some 25) ≠ pad25 := by decide +kernel
theorem pad_13 : ∀ k, k < 3 → cutS (lineOf 13 k) none (some 25) = pad25 := by decide +kernel
end OR

set_option Elab.async false
set_option maxRecDepth 100000
set_option maxHeartbeats 4000000
set_option linter.all false
namespace OR
open PySem PySem.Spec PyProof.Rows L2 TS2
def spItem (K : PySem.W.Frag) : Sp := fun vs H Q _ => ∃ (p a : Addr) (ws : List Str), vs = [.ref p, .ref a] ∧ PoolAt H p ∧ H a = some (.lst (ws.map V.str)) ∧ 1 ≤ ws.length ∧ ws.length ≤ 1000 ∧ ∀ w ∈ ws, ∀ H', Adv p H H' → Q (.str w) H'
def zeros (n : Nat) : List Int := List.replicate n 0
def spNested (K : PySem.W.Frag) : Sp := fun vs H Q _ => ∃ (p : Addr) (n : Nat), vs = [.ref p, .int (n : Nat)] ∧ PoolAt H p ∧ 1 ≤ n ∧ n ≤ 2000 ∧
  ∀ (t a q : Addr) (H' : Hp) (ks : List Nat), Adv p H H' → H' t = some (.tup [.ref a, .ref q]) → H' a = some (.lst ((linesOf ks).map V.str)) → ks.length = n → (∀ k ∈ ks, k < 3) → SqT K H' q ((zeros (2 * min n 4 + 1)).map V.int) → Q (.ref t) H'
inductive DueIs (K : PySem.W.Frag) (H : Hp) (n : Nat) (q a : Addr) : Prop
  | line (h : 12 < n) (e : SqT K H a [.str "line", .int 15, .bl true]) : DueIs K H n q a
  | rows (h : n ≤ 12) (h2 : 4 < n) (e : SqT K H a [.str "rows", .ref q, .bl true]) : DueIs K H n q a
  | none (h2 : n ≤ 4) (e : SqT K H a [.str "none", .non, .bl true]) : DueIs K H n q a
def spDue (K : PySem.W.Frag) : Sp := fun vs H Q _ => ∃ (a q : Addr) (ks : List Nat), vs = [.ref a, .ref q, .int (ks.length : Nat)] ∧ H a = some (.lst ((linesOf ks).map V.str)) ∧ (∀ k ∈ ks, k < 3) ∧ ks.length ≤ 2000 ∧
  ∀ (t : Addr) (H' : Hp), Same H H' → H t = none → DueIs K H' ks.length q t → Q (.ref t) H'
theorem map_at {xs : List Str} {i : Nat} (h : i < xs.length) : atI (xs.map V.str) (i : Int) = some (V.str xs[i]) := atI_nat (by simp [h])
theorem three_at : ∀ d, d < 3 → ([("loop" : Str), "part", "past g"])[d]? = some (kdT d) := by decide +kernel
section
variable {P : Program} {w : World} {K : PySem.W.Frag} {mg : Str → Option Value} {base : Heap}
theorem ok_item {f : Addr} {fd : FuncData} (F : FnP K "_law_item" "_law_item" s__law_item f fd) (T : Tx w K mg) (G__law_draw : Def P w K mg base CX0 1 "_law_draw" p__law_draw spDraw) : FnOk P w K mg base CX0 2 f fd p__law_item (spItem K) := by
  refine F.ok sc__law_item (fun vs H Q E h => ?_) (fun cdv A outer s H vs Q E hr h => ?_)
  · obtain ⟨p, a, ws, rfl, _⟩ := h
    rfl
  · obtain ⟨p, a, ws, rfl, hp, ha, l1, l2, k⟩ := h
    refine ⟨_, PSs.nox (pss_one (ps_ret (pe_ix ix_list (pv 1) (pe_fn G__law_draw (hr.mono (by decide)) (by rfl) pass0 (pa_cons (pv 0) (pa_cons (pe_callB call_len_seq (by rfl) T.b_len PySem.boot_len (pa_cons (pv 1) pa_nil)) pa_nil))) (fun _ _ => rfl)))), ?_⟩
    refine ⟨_, rfl, _, rfl, _, rfl, a, _, rfl, .inl (SqL.of ha), ?_⟩
    rw [List.length_map]
    dsimp only [tCons, tC, tNil, List.append_nil]
    refine draw_k hp l1 (by omega) fun d H' hd A => ?_
    refine ⟨a, _, d, V.str (ws[d]'hd), rfl, rfl, SqL.of (A.at_ ha hp (fun _ z => by cases z)), atI_nat (by simp [hd]), k _ (List.getElem_mem _) H' A⟩
theorem ok_nested {f : Addr} {fd : FuncData} (F : FnP K "_law_nested" "_law_nested" s__law_nested f fd) (T : Tx w K mg) (G__law_draw : Def P w K mg base CX0 1 "_law_draw" p__law_draw spDraw) : FnOk P w K mg base CX0 2 f fd p__law_nested (spNested K) := by
  refine F.ok sc__law_nested (fun vs H Q E h => ?_) (fun cdv A outer s H vs Q E hr h => ?_)
  · obtain ⟨p, n, rfl, _⟩ := h
    rfl
  · obtain ⟨p, n, rfl, hp, n1, n2, kq⟩ := h
    refine ⟨_, PSs.nox (pss_cons (ps_set (i := 2) sc__law_nested.nd rfl (.inl rfl) (pe_lst (pa_cons pe_str (pa_cons pe_str pa_nil))))
      (pss_cons (ps_set (i := 3) sc__law_nested.nd rfl (.inl rfl) (pe_tup pa_nil))
      (pss_cons (ps_set (i := 4) sc__law_nested.nd rfl (.inl rfl) pe_int)
      (pss_cons (ps_for PassesOwn.never rfl (pi_range1 (by rfl) T.b_range (pa_cons (pv 1) pa_nil)) (pg_name (i := 5) sc__law_nested.nd rfl (.inl rfl)) (pss_cons (ps_expr (pe_bm PySem.F.plainAttrs_list PySem.F.slot_list_append PySem.F.type_list_append mt_append (pv 2) (pa_cons (pe_op op_add_str (pe_op op_rpt pe_str (pv 4)) (pe_ix ix_list (pe_lst (pa_cons pe_str (pa_cons pe_str (pa_cons pe_str pa_nil)))) (pe_fn G__law_draw (hr.mono (by decide)) (by rfl) pass0 (pa_cons (pv 0) (pa_cons pe_int pa_nil))) (fun _ _ => rfl))) pa_nil)))
      (pss_cons (ps_if (pt_cmpR op_lt (pv 5) pe_int (nomark _)) (pss_one (ps_set (i := 3) sc__law_nested.nd rfl (.inl rfl) (pe_op op_catA (pv 3) (pe_tup (pa_cons pe_int (pa_cons pe_int pa_nil)))))) pss_nil)
      (pss_one (ps_set (i := 4) sc__law_nested.nd rfl (.inl rfl) (pe_op op_add (pv 4) pe_int))))))
      (pss_one (ps_ret (pe_tup (pa_cons (pv 2) (pa_cons (pe_op op_catA (pv 3) (pe_tup (pa_cons pe_int pa_nil))) pa_nil))))))))), ?_⟩
    refine ⟨by show 2 ≤ sizeLine; decide, fun L nL => ?_⟩
    have SL : Same H (upd H L (.lst [.str "inputs go", .str "rows"])) := Same.new nL
    have hL : upd H L (.lst [.str "inputs go", .str "rows"]) L = some (.lst [.str "inputs go", .str "rows"]) := upd_same
    refine ⟨by show 0 ≤ sizeLine; decide, fun q0 nq0 => ?_⟩
    generalize upd H L (.lst [.str "inputs go", .str "rows"]) = H1 at SL hL nq0 ⊢
    have Sq : Same H1 (upd H1 q0 (.tup [])) := Same.new nq0
    have hq : upd H1 q0 (.tup []) q0 = some (.tup []) := upd_same
    have hL1 := Sq _ _ hL
    generalize upd H1 q0 (.tup []) = H2 at Sq hq hL1 ⊢
    have A2 : Adv p H H2 := Adv.of hp (SL.trans Sq)
    refine ⟨_, rfl, n, rfl, by omega, by omega, ?_⟩
    refine for_it (walk_range (lo := 0) (n := n)) (fun i σ' H' => ∃ (q : Addr) (ks : List Nat) (x : Option V), σ' = [some (.ref p), some (.int (n : Nat)), some (.ref L), some (.ref q), some (.int ((i + 1 : Nat) : Int)), x] ∧ Kp (fun b => b = p ∨ b = L) H2 H' ∧ (∀ b, H' b = none → H2 b = none) ∧ PoolAt H' p ∧
        H' L = some (.lst ((linesOf ks).map V.str)) ∧ ks.length = i ∧ (∀ k ∈ ks, k < 3) ∧ H' q = some (.tup ((zeros (2 * min i 4)).map V.int))) ?_ (fun _ _ _ _ _ => trivial) (fun i x σ' H3 H4 hi q y => ?_) (fun σ' H3 q => ?_)
    · exact ⟨q0, [], _, rfl, Kp.refl _, fun _ e => e, A2.p, hL1, rfl, fun k hk => (by cases hk), hq⟩
    · obtain ⟨q, ks, x0, rfl, kp, fr, hp3, h3, lk, k3, hq3⟩ := q
      obtain ⟨rfl, rfl⟩ := y
      refine ⟨_, rfl, .inl ⟨rfl, _, SqL.of h3⟩, ?_⟩
      refine ⟨_, rfl, "  ", i + 1, rfl, rfl, by decide +kernel, by decide +kernel, by omega, ?_⟩
      refine ⟨by show 3 ≤ sizeLine; decide, fun c nc => ?_⟩
      have Sc : Same H4 (upd H4 c (.lst [.str "loop", .str "part", .str "past g"])) := Same.new nc
      have hc : upd H4 c (.lst [.str "loop", .str "part", .str "past g"]) c = some (.lst [.str "loop", .str "part", .str "past g"]) := upd_same
      generalize upd H4 c (.lst [.str "loop", .str "part", .str "past g"]) = H5 at Sc hc ⊢
      refine ⟨_, rfl, ?_⟩
      dsimp only [tCons, tC, tNil, List.append_nil]
      refine draw_k (m := 3) (hp3.of Sc) (by omega) (by omega) fun d H6 hd A6 => ?_
      have hc6 := A6.at_ hc (hp3.of Sc) (fun _ z => by cases z)
      have hL6 := A6.at_ (Sc _ _ h3) (hp3.of Sc) (fun _ z => by cases z)
      refine ⟨c, _, d, .str (kdT d), rfl, rfl, SqL.of hc6, ?_, _, _, rfl, rfl, ?_, ?_⟩
      · refine atI_nat ?_
        have := three_at d hd
        show (([("loop" : Str), "part", "past g"]).map V.str)[d]? = _
        rw [List.getElem?_map, this]
        rfl
      · have := lineOf_len (i + 1) d hd
        have e : (rpt "  " (i + 1) ++ kdT d).length = (rpt "  " (i + 1)).length + (kdT d).length := Array.size_append
        unfold lineOf at this
        rw [e] at this
        rw [sizeLine_eq]
        omega
      · refine ⟨L, _, _, rfl, rfl, hL6, ?_, ?_⟩
        · rw [List.length_map, linesOf_len, lk]
          rw [sizeLine_eq]
          omega
        have e1 : (linesOf ks).map V.str ++ [V.str (rpt "  " (i + 1) ++ kdT d)] = (linesOf (ks ++ [d])).map V.str := by
          rw [linesOf_app, List.map_append, lk]
          rfl
        rw [e1]
        have Lp : L ≠ p := fun z => by
          obtain ⟨_, _, _, h⟩ := A6.p
          rw [z, h] at hL6
          cases hL6
        have kp7 : Kp (fun b => b = p ∨ b = L) H2 (upd H6 L (.lst ((linesOf (ks ++ [d])).map V.str))) := ((kp.trans (Kp.of Sc)).trans (A6.k.mono fun b z => .inl z)).trans (Kp.put (.inr rfl))
        have fr7 : ∀ b, upd H6 L (.lst ((linesOf (ks ++ [d])).map V.str)) b = none → H2 b = none := fun b e => by
          have nb : b ≠ L := fun z => by rw [z, upd_same] at e; cases e
          rw [upd_ne nb] at e
          exact fr b (Sc.free (A6.f b e))
        have hp7 : PoolAt (upd H6 L (.lst ((linesOf (ks ++ [d])).map V.str))) p := by
          obtain ⟨x, y, z, h⟩ := A6.p
          exact ⟨x, y, z, by rw [upd_ne Lp.symm]; exact h⟩
        have hL7 : upd H6 L (.lst ((linesOf (ks ++ [d])).map V.str)) L = some (.lst ((linesOf (ks ++ [d])).map V.str)) := upd_same
        have hq7 : upd H6 L (.lst ((linesOf (ks ++ [d])).map V.str)) q = some (.tup ((zeros (2 * min i 4)).map V.int)) := by
          have h6 := A6.at_ (Sc _ _ hq3) (hp3.of Sc) (fun _ z => by cases z)
          rw [upd_ne (fun z => by rw [z, hL6] at h6; cases h6)]
          exact h6
        have k37 : ∀ k ∈ ks ++ [d], k < 3 := fun k hk => by
          rcases List.mem_append.mp hk with h | h
          · exact k3 k h
          · rw [List.mem_singleton.mp h]; exact hd
        have lk7 : (ks ++ [d]).length = i + 1 := by simp [lk]
        generalize upd H6 L (.lst ((linesOf (ks ++ [d])).map V.str)) = H7 at kp7 fr7 hp7 hL7 hq7 ⊢
        refine ⟨_, rfl, _, _, rfl, rfl, _, rfl, ?_⟩
        have el : V.int (((i + 1 : Nat) : Int) + 1) = V.int ((i + 1 + 1 : Nat) : Int) := rfl
        refine ite2 (fun hb => ?_) fun hb => ?_
        · have i4 : i < 4 := by have := of_decide_eq_true hb; omega
          refine ⟨_, rfl, by show 2 ≤ sizeLine; decide, fun c2 nc2 => ?_⟩
          have S8 : Same H7 (upd H7 c2 (.tup [.int 0, .int 0])) := Same.new nc2
          have h8 : upd H7 c2 (.tup [.int 0, .int 0]) c2 = some (.tup [.int 0, .int 0]) := upd_same
          have fin : ∀ (q2 : Addr) (H9 : Hp), Same H7 H9 → H9 q2 = some (.tup ((zeros (2 * min (i + 1) 4)).map V.int)) → ∃ (q : Addr) (ks' : List Nat) (x : Option V), [some (V.ref p), some (.int (n : Nat)), some (.ref L), some (.ref q2), some (.int ((i + 1 + 1 : Nat) : Int)), some (.int (0 + (i : Int)))] = [some (V.ref p), some (.int (n : Nat)), some (.ref L), some (.ref q), some (.int ((i + 1 + 1 : Nat) : Int)), x] ∧ Kp (fun b => b = p ∨ b = L) H2 H9 ∧ (∀ b, H9 b = none → H2 b = none) ∧ PoolAt H9 p ∧
              H9 L = some (.lst ((linesOf ks').map V.str)) ∧ ks'.length = i + 1 ∧ (∀ k ∈ ks', k < 3) ∧ H9 q = some (.tup ((zeros (2 * min (i + 1) 4)).map V.int)) := fun q2 H9 S9 h9 =>
            ⟨q2, ks ++ [d], _, rfl, kp7.trans (Kp.of S9), fun b e => fr7 b (S9.free e), hp7.of S9, S9 _ _ hL7, lk7, k37, h9⟩
          generalize upd H7 c2 (.tup [.int 0, .int 0]) = H8 at S8 h8 ⊢
          have ez : (zeros (2 * min i 4)).map V.int ++ [.int 0, .int 0] = (zeros (2 * min (i + 1) 4)).map V.int := by
            have e2 : 2 * min (i + 1) 4 = 2 * min i 4 + 1 + 1 := by omega
            rw [e2]
            unfold zeros
            rw [List.replicate_succ', List.replicate_succ', List.map_append, List.map_append, List.append_assoc]
            rfl
          refine ⟨q, c2, _, _, rfl, rfl, SqT.of (S8 _ _ hq7), SqT.of h8, ?_, fun z => ?_, fun _ z => (by cases z), fun _ _ r nr => ?_⟩
          · unfold zeros
            rw [List.length_map, List.length_replicate, sizeLine_eq]
            show _ + 2 ≤ _
            omega
          · refine ⟨_, rfl, _, _, rfl, rfl, ?_⟩
            rw [z, List.nil_append] at ez
            exact fin c2 H8 S8 (by rw [h8, ez])
          · refine ⟨_, rfl, _, _, rfl, rfl, ?_⟩
            exact fin r _ (S8.trans (Same.new nr)) (by rw [upd_same, ez])
        · have i4 : ¬ i < 4 := fun h => hb (decide_eq_true (by omega))
          refine ⟨_, rfl, _, _, rfl, rfl, ?_⟩
          have e4 : min (i + 1) 4 = min i 4 := by omega
          exact ⟨q, ks ++ [d], _, rfl, kp7, fr7, hp7, hL7, lk7, k37, by rw [e4]; exact hq7⟩
    · obtain ⟨q, ks, x0, rfl, kp, fr, hp3, h3, lk, k3, hq3⟩ := q
      refine ⟨_, rfl, _, rfl, by show 1 ≤ sizeLine; decide, fun c nc => ?_⟩
      have Sc : Same H3 (upd H3 c (.tup [.int 0])) := Same.new nc
      have hc : upd H3 c (.tup [.int 0]) c = some (.tup [.int 0]) := upd_same
      generalize upd H3 c (.tup [.int 0]) = H4 at Sc hc ⊢
      have ez : (zeros (2 * min n 4)).map V.int ++ [.int 0] = (zeros (2 * min n 4 + 1)).map V.int := by
        unfold zeros
        rw [List.replicate_succ', List.map_append]
        rfl
      refine ⟨q, c, _, _, rfl, rfl, SqT.of (Sc _ _ hq3), SqT.of hc, ?_, fun z => ?_, fun _ z => (by cases z), fun _ _ r nr => ?_⟩
      · unfold zeros
        rw [List.length_map, List.length_replicate, sizeLine_eq]
        show _ + 1 ≤ _
        omega
      · have : ((zeros (2 * min n 4)).map V.int).length = 0 := by rw [z]; rfl
        unfold zeros at this
        rw [List.length_map, List.length_replicate] at this
        omega
      rw [ez]
      have Sr : Same H4 (upd H4 r (.tup ((zeros (2 * min n 4 + 1)).map V.int))) := Same.new nr
      have hr2 : upd H4 r (.tup ((zeros (2 * min n 4 + 1)).map V.int)) r = some (.tup ((zeros (2 * min n 4 + 1)).map V.int)) := upd_same
      generalize upd H4 r (.tup ((zeros (2 * min n 4 + 1)).map V.int)) = H5 at Sr hr2 ⊢
      refine ⟨by show 2 ≤ sizeLine; decide, fun t nt => ?_⟩
      have S5 := (Sc.trans Sr).trans (Same.new (o := .tup [.ref L, .ref r]) nt)
      refine kq t L r _ ks ⟨fun b o hb nb => ?_, hp3.of S5, fun b e => ?_⟩ upd_same (S5 _ _ h3) lk k3 (SqT.of (Same.new nt _ _ hr2))
      · refine S5 _ _ (kp b o (A2.k b o hb nb) ?_)
        rintro (z | z)
        · exact nb z
        · rw [z, nL] at hb; cases hb
      · exact A2.f b (fr b (S5.free e))
theorem ok_due {f : Addr} {fd : FuncData} (F : FnP K "_law_nested_due" "_law_nested_due" s__law_nested_due f fd) (T : Tx w K mg) : FnOk P w K mg base CX0 1 f fd p__law_nested_due (spDue K) := by
  refine F.ok sc__law_nested_due (fun vs H Q E h => ?_) (fun cdv A outer s H vs Q E hr h => ?_)
  · obtain ⟨a, q, ks, rfl, _⟩ := h
    rfl
  · obtain ⟨a, q, ks, rfl, ha, k3, k2000, kq⟩ := h
    refine ⟨_, PSs.nox (pss_cons (ps_for PassesOwn.never rfl (pi_range1 (by rfl) T.b_range (pa_cons (pe_callB call_len_seq (by rfl) T.b_len PySem.boot_len (pa_cons (pv 0) pa_nil)) pa_nil)) (pg_name (i := 3) sc__law_nested_due.nd rfl (.inl rfl)) (pss_one (ps_if (pt_cmpR op_eq (pe_slice sl_str (pe_ix ix_list (pv 0) (pv 3) (fun _ _ => rfl)) po_none (po_some pe_int)) (pe_op op_rpt pe_str pe_int) (nomark _)) (pss_one (ps_ret (pe_tup (pa_cons pe_str (pa_cons (pe_op op_add (pv 3) pe_int) (pa_cons pe_bl pa_nil)))))) pss_nil)))
      (pss_cons (ps_if (pt_cmpR op_gt (pv 2) pe_int (nomark _)) (pss_one (ps_ret (pe_tup (pa_cons pe_str (pa_cons (pv 1) (pa_cons pe_bl pa_nil)))))) pss_nil)
      (pss_one (ps_ret (pe_tup (pa_cons pe_str (pa_cons pe_non (pa_cons pe_bl pa_nil)))))))), ?_⟩
    refine ⟨_, rfl, a, _, rfl, .inl (SqL.of ha), _, rfl, by omega, ?_, ?_⟩
    · rw [List.length_map, linesOf_len]
      omega
    have en : (((linesOf ks).map V.str).length : Int).toNat = 2 + ks.length := by rw [List.length_map, linesOf_len]; rfl
    rw [en]
    refine for_it (walk_range (lo := 0) (n := 2 + ks.length)) (fun i σ' H' => (∃ x, σ' = [some (.ref a), some (.ref q), some (.int (ks.length : Nat)), x]) ∧ H' = H ∧ i ≤ 14) ⟨⟨_, rfl⟩, rfl, by decide⟩ (fun _ _ _ _ _ => trivial) (fun i x σ' H3 H4 hi y' y => ?_) (fun σ' H3 y => ?_)
    · obtain ⟨⟨x0, rfl⟩, rfl, i14⟩ := y'
      obtain ⟨rfl, rfl⟩ := y
      have key : ∃ l, (linesOf ks)[i]? = some l ∧ l.length ≤ 10000 ∧ (i < 14 → cutS l none (some 25) ≠ pad25) ∧ (i = 14 → cutS l none (some 25) = pad25) := by
        match i, i14, hi with
        | 0, _, _ => exact ⟨sI, rfl, by decide +kernel, fun _ => pad_head.1, fun z => (by cases z)⟩
        | 1, _, _ => exact ⟨sR, rfl, by decide +kernel, fun _ => pad_head.2, fun z => (by cases z)⟩
        | j + 2, j14, hj =>
          have hj2 : j < ks.length := by omega
          have ek : ks[j]? = some ks[j] := List.getElem?_eq_getElem hj2
          have kk := k3 _ (List.getElem_mem hj2)
          refine ⟨lineOf (j + 1) ks[j], by rw [Nat.add_comm]; exact linesOf_at ks j _ ek, ?_, fun z => pad_lines _ (by omega) _ kk, fun z => ?_⟩
          · have := lineOf_len (j + 1) _ kk
            omega
          · have e : j + 1 = 13 := by omega
            rw [e]
            exact pad_13 _ kk
      obtain ⟨l, hl, l1, ln, lp⟩ := key
      refine ⟨_, rfl, _, rfl, a, _, _, .str l, rfl, rfl, SqL.of ha, ?_, 25, rfl, l, rfl, by rw [sizeLine_eq]; omega, " ", 25, rfl, rfl, by decide +kernel, by decide +kernel, by decide, rfl, _, rfl, ?_⟩
      · rw [Int.zero_add]
        exact atI_nat (by rw [List.getElem?_map, hl]; rfl)
      show (if decide (V.str (cutS l none (some 25)) = V.str pad25) = true then _ else _)
      by_cases c : i = 14
      · refine iteT' (decide_eq_true (congrArg V.str (lp c))) ?_
        subst c
        refine ⟨_, rfl, _, _, rfl, rfl, by show 3 ≤ sizeLine; decide, fun t nt => ?_⟩
        exact kq t _ (Same.new nt) nt (.line (by omega) (SqT.of upd_same))
      · refine iteF' (decide_eq_false fun z => ln (by omega) (V.str.inj z)) ?_
        exact ⟨⟨_, rfl⟩, rfl, by omega⟩
    · obtain ⟨⟨x0, rfl⟩, rfl, i14⟩ := y
      refine ⟨_, rfl, _, _, rfl, rfl, _, rfl, ?_⟩
      refine ite2 (fun hb => ?_) fun hb => ?_
      · have h4 : 4 < ks.length := by have := of_decide_eq_true hb; omega
        refine ⟨_, rfl, by show 3 ≤ sizeLine; decide, fun t nt => ?_⟩
        exact kq t _ (Same.new nt) nt (.rows (by omega) h4 (SqT.of upd_same))
      · have h4 : ¬ 4 < ks.length := fun z => hb (decide_eq_true (by omega))
        refine ⟨by show 3 ≤ sizeLine; decide, fun t nt => ?_⟩
        exact kq t _ (Same.new nt) nt (.none (by omega) (SqT.of upd_same))
end
end OR

set_option Elab.async false
set_option maxRecDepth 100000
set_option maxHeartbeats 8000000
set_option linter.all false
namespace OR
open PySem PySem.Spec PyProof.Rows L2 TS2
abbrev cRE (K : PySem.W.Frag) : Addr := He.ga K "RunError"
abbrev cIE (K : PySem.W.Frag) : Addr := He.ga K "InputError"
structure ErrH (K : PySem.W.Frag) (mg : Str → Option Value) : Prop where
  xfA : XfC K (cIA K)
  xfH : XfC K (cIH K)
  xfT : XfC K (cIT K)
  xfP : XfC K (cIP K)
  xcA : ExcC K (cIA K)
  xcH : ExcC K (cIH K)
  xcT : ExcC K (cIT K)
  xcP : ExcC K (cIP K)
  gA : mg "InvalidArgument" = some (.ref (cIA K))
  gH : mg "InvalidHistory" = some (.ref (cIH K))
  gT : mg "InvalidText" = some (.ref (cIT K))
  gP : mg "InvalidProgram" = some (.ref (cIP K))
  gR : mg "RunError" = some (.ref (cRE K))
  gI : mg "InputError" = some (.ref (cIE K))
  nA : PySem.W.findIn K (.ref (cIA K)) "part" = some none
  nH : PySem.W.findIn K (.ref (cIH K)) "at" = some none
  nT : PySem.W.findIn K (.ref (cIT K)) "line" = some none
  nP1 : PySem.W.findIn K (.ref (cIP K)) "part" = some none
  nP2 : PySem.W.findIn K (.ref (cIP K)) "path" = some none
  eAA : PySem.W.exmOne K (.ref (cIA K)) (.ref (cIA K)) = some true
  eHA : PySem.W.exmOne K (.ref (cIH K)) (.ref (cIA K)) = some false
  eHH : PySem.W.exmOne K (.ref (cIH K)) (.ref (cIH K)) = some true
  eTA : PySem.W.exmOne K (.ref (cIT K)) (.ref (cIA K)) = some false
  eTH : PySem.W.exmOne K (.ref (cIT K)) (.ref (cIH K)) = some false
  eTT : PySem.W.exmOne K (.ref (cIT K)) (.ref (cIT K)) = some true
  ePA : PySem.W.exmOne K (.ref (cIP K)) (.ref (cIA K)) = some false
  ePH : PySem.W.exmOne K (.ref (cIP K)) (.ref (cIH K)) = some false
  ePT : PySem.W.exmOne K (.ref (cIP K)) (.ref (cIT K)) = some false
  ePP : PySem.W.exmOne K (.ref (cIP K)) (.ref (cIP K)) = some true
  kAR : PySem.W.kitOne K (.ref (cIA K)) (.ref (cRE K)) = some false
  kAT : PySem.W.kitOne K (.ref (cIA K)) (.ref (cIT K)) = some false
  kHI : PySem.W.kitOne K (.ref (cIH K)) (.ref (cIE K)) = some true
  kHT : PySem.W.kitOne K (.ref (cIH K)) (.ref (cIT K)) = some false
  kTI : PySem.W.kitOne K (.ref (cIT K)) (.ref (cIE K)) = some true
  kTR : PySem.W.kitOne K (.ref (cIT K)) (.ref (cRE K)) = some false
  kPI : PySem.W.kitOne K (.ref (cIP K)) (.ref (cIE K)) = some true
/-- what a call came to -/
inductive TD where
  | arg (p : Str) | hist (at_ : Int) | line (n : Int) | rows (path : List Int) | ok
def TD.At (K : PySem.W.Frag) (H : Hp) (a : Addr) : TD → Prop
  | .arg p => SqT K H a [.str "argument", .str p, .bl true]
  | .hist i => SqT K H a [.str "history", .int i, .bl true]
  | .line n => SqT K H a [.str "line", .int n, .bl true]
  | .rows path => ∃ t, SqT K H a [.str "rows", .ref t, .bl true] ∧ SqT K H t (path.map V.int)
  | .ok => SqT K H a [.str "none", .non, .bl true]
def pText : Str := "text"
def pProg : Str := "program"
/-- what is asked, and what it comes to -/
inductive Asks (K : PySem.W.Frag) (H : Hp) : Int → V → TD → Prop
  | prog {v : V} (h : NoProg K H v) : Asks K H 0 v (.arg pProg)
  | noText {v : V} (h : NoStrT K H v) : Asks K H 1 v (.arg pText)
  | empty {t : Str} (z : t.length + 2 ≤ sizeLine) (e : Txt.split t "\n" = tE) : Asks K H 1 (.str t) (.line 1)
  | two {t : Str} (z : t.length + 2 ≤ sizeLine) (e : Txt.split t "\n" = tI) : Asks K H 1 (.str t) (.line 2)
  | deep {t : Str} {ks : List Nat} (z : t.length + 2 ≤ sizeLine) (e : Txt.split t "\n" = linesOf ks) (k3 : ∀ k ∈ ks, k < 3) (n : ks.length ≤ 2000) (h : 12 < ks.length) : Asks K H 1 (.str t) (.line 15)
  | bad {t : Str} {ks : List Nat} (z : t.length + 2 ≤ sizeLine) (e : Txt.split t "\n" = linesOf ks) (k3 : ∀ k ∈ ks, k < 3) (h : ks.length ≤ 12) (h4 : 4 < ks.length) : Asks K H 1 (.str t) (.rows zeros9)
  | good {t : Str} {ks : List Nat} (z : t.length + 2 ≤ sizeLine) (e : Txt.split t "\n" = linesOf ks) (k3 : ∀ k ∈ ks, k < 3) (h4 : ks.length ≤ 4) : Asks K H 1 (.str t) .ok
  | noHist {v : V} (h : NoStrT K H v) : Asks K H 2 v (.arg pText)
  | line {t : Str} {n : Nat} (z : t.length + 2 ≤ sizeLine) (h : BadAt (Txt.split t "\n") n) (n1 : n ≤ 100) : Asks K H 2 (.str t) (.line ((n + 1 : Nat) : Int))
  | noList {v : V} (h : NotA K H v "list") : Asks K H 3 v (.hist (-1))
  | emptyL {a : Addr} (h : H a = some (.lst [])) : Asks K H 3 (.ref a) (.hist 0)
def spCallT (K : PySem.W.Frag) : Sp := fun vs H Q _ => ∃ (n : Int) (v : V) (d : TD), vs = [.int n, v] ∧ Asks K H n v d ∧ ∀ (a : Addr) (H' : Hp), Same H H' → H a = none → d.At K H' a → Q (.ref a) H'
theorem tyx_same {K : PySem.W.Frag} {H H' : Hp} {v : V} {t : Value} (S : Same H H') (h : TyX K H v t) : TyX K H' v t := by
  cases h with
  | base b =>
    cases b with
    | non => exact .base .non
    | bl y => exact .base (.bl y)
    | int i => exact .base (.int i)
    | str y => exact .base (.str y)
    | flt y => exact .base (.flt y)
    | lst e => exact .base (.lst (S _ _ e))
    | frz e => exact .base (.frz (S _ _ e))
    | tup e => exact .base (.tup (S _ _ e))
    | dK e => exact .base (.dK (S _ _ e))
    | dT e => exact .base (.dT (S _ _ e))
    | ins e c a b d m => exact .base (.ins (S _ _ e) c a b d m)
  | byt b => exact .byt b
  | set e => exact .set (S _ _ e)
  | kList e c => exact .kList e c
  | kTuple e c => exact .kTuple e c
  | kDict e c => exact .kDict e c
  | fTuple e => exact .fTuple (S _ _ e)
  | fDict e => exact .fDict (S _ _ e)
theorem lines_len {ks : List Nat} (k3 : ∀ k ∈ ks, k < 3) {i : Nat} {x : Str} (h : (linesOf ks)[i]? = some x) : x.length ≤ 2 * i + 20 := by
  match i, h with
  | 0, h =>
    cases Option.some.inj h
    decide +kernel
  | 1, h =>
    cases Option.some.inj h
    decide +kernel
  | j + 2, h =>
    have lt := (List.getElem?_eq_some_iff.mp h).1
    rw [linesOf_len] at lt
    have hj : j < ks.length := by omega
    have e : ks[j]? = some ks[j] := List.getElem?_eq_getElem hj
    have := linesOf_at ks j _ e
    rw [Nat.add_comm] at this
    rw [this] at h
    cases Option.some.inj h
    have := lineOf_len (j + 1) ks[j] (k3 _ (List.getElem_mem hj))
    omega
section
variable {P : Program} {w : World} {K : PySem.W.Frag} {mg : Str → Option Value} {base : Heap}
theorem ok_call {kp : Nat} {f : Addr} {fd : FuncData} (F : FnP K "_law_call" "_law_call" s__law_call f fd) (T : Tx w K mg) (EH : ErrH K mg) (h4 : 4 ≤ kp) (G_program_text : Def P w K mg base (L2.CX P w) 3 "program_text" p_program_text (spProgText K)) (G_read_program : Def P w K mg base (L2.CX P w) kp "read_program" p_read_program (spReadProg K))
    (G_read_history : Def P w K mg base (L2.CX P w) 4 "read_history" p_read_history (spReadHist K)) (G_history_text : Def P w K mg base (L2.CX P w) 4 "history_text" p_history_text (spCut K)) : FnOk P w K mg base CX0 (kp + 1) f fd p__law_call (spCallT K) := by
  refine F.ok sc__law_call (fun vs H Q E h => ?_) (fun cdv A outer s H vs Q E hr h => ?_)
  · obtain ⟨n, v, d, rfl, _⟩ := h
    rfl
  · obtain ⟨n, v, d, rfl, ask, k⟩ := h
    refine ⟨_, pss_cons (ps_set (i := 2) sc__law_call.nd rfl (.inl rfl) (pe_tup (pa_cons pe_str (pa_cons pe_non (pa_cons pe_bl pa_nil)))))
      (pss_cons (ps_try_each (j := 3) (tb := _) (Wo := fun _ _ _ _ => False) rfl rfl sc__law_call.nd rfl rfl takes0
        (fun W pn xe tk _ => pss_one (ps_if (pt_cmpR op_eq (pv 0) pe_int (nomark _)) (pss_one (ps_expr (by exact (pe_fnS G_program_text (hr.mono (by omega)) (by rfl) tk (pa_cons (pv 1) pa_nil)))))
          (pss_one (ps_if (pt_cmpR op_eq (pv 0) pe_int (nomark _)) (pss_one (ps_expr (by exact (pe_fnS G_read_program (hr.mono (by omega)) (by rfl) tk (pa_cons (pv 1) pa_nil)))))
            (pss_one (ps_if (pt_cmpR op_eq (pv 0) pe_int (nomark _)) (pss_one (ps_expr (by exact (pe_fnS G_read_history (hr.mono (by omega)) (by rfl) tk (pa_cons (pv 1) pa_nil)))))
              (pss_one (ps_expr (by exact (pe_fnS G_history_text (hr.mono (by omega)) (by rfl) tk (pa_cons (pv 1) pa_nil)))))))))))
        (.cons ⟨rfl, by decide, .inl EH.gA⟩ (fun a oe cls d pn hz hf => pss_one (ps_set (i := 2) sc__law_call.nd rfl (.inl rfl) (pe_tup (pa_cons pe_str (pa_cons (by exact (pe_xf EH.xfA EH.nA hz hf (pv 3))) (pa_cons (pe_and (pe_not (pe_callB (call_isX hz hf) (by rfl) T.b_isinstance (by decide +kernel) (pa_cons (pv 3) (pa_cons (pe_ref (by rfl) EH.gR) pa_nil)))) (pe_one (pe_not (pe_callB (call_isX hz hf) (by rfl) T.b_isinstance (by decide +kernel) (pa_cons (pv 3) (pa_cons (pe_ref (by rfl) EH.gT) pa_nil)))))) pa_nil))))))
        (.cons ⟨rfl, by decide, .inl EH.gH⟩ (fun a oe cls d pn hz hf => pss_one (ps_set (i := 2) sc__law_call.nd rfl (.inl rfl) (pe_tup (pa_cons pe_str (pa_cons (by exact (pe_xf EH.xfH EH.nH hz hf (pv 3))) (pa_cons (pe_and (pe_callB (call_isX hz hf) (by rfl) T.b_isinstance (by decide +kernel) (pa_cons (pv 3) (pa_cons (pe_ref (by rfl) EH.gI) pa_nil))) (pe_one (pe_not (pe_callB (call_isX hz hf) (by rfl) T.b_isinstance (by decide +kernel) (pa_cons (pv 3) (pa_cons (pe_ref (by rfl) EH.gT) pa_nil)))))) pa_nil))))))
        (.cons ⟨rfl, by decide, .inl EH.gT⟩ (fun a oe cls d pn hz hf => pss_one (ps_set (i := 2) sc__law_call.nd rfl (.inl rfl) (pe_tup (pa_cons pe_str (pa_cons (by exact (pe_xf EH.xfT EH.nT hz hf (pv 3))) (pa_cons (pe_and (pe_callB (call_isX hz hf) (by rfl) T.b_isinstance (by decide +kernel) (pa_cons (pv 3) (pa_cons (pe_ref (by rfl) EH.gI) pa_nil))) (pe_one (pe_not (pe_callB (call_isX hz hf) (by rfl) T.b_isinstance (by decide +kernel) (pa_cons (pv 3) (pa_cons (pe_ref (by rfl) EH.gR) pa_nil)))))) pa_nil))))))
        (.cons ⟨rfl, by decide, .inl EH.gP⟩ (fun a oe cls d pn hz hf => pss_one (ps_set (i := 2) sc__law_call.nd rfl (.inl rfl) (pe_tup (pa_cons (by exact (pe_xf EH.xfP EH.nP1 hz hf (pv 3))) (pa_cons (by exact (pe_xf EH.xfP EH.nP2 hz hf (pv 3))) (pa_cons (pe_callB (call_isX hz hf) (by rfl) T.b_isinstance (by decide +kernel) (pa_cons (pv 3) (pa_cons (pe_ref (by rfl) EH.gI) pa_nil))) pa_nil)))))) .nil)))))
      (pss_one (ps_ret (pv 2)))), ?_⟩
    refine ⟨by show 3 ≤ sizeLine; decide, fun r0 nr0 => ?_⟩
    have S1 : Same H (upd H r0 (.tup [.str "none", .non, .bl true])) := Same.new nr0
    have hr0 : upd H r0 (.tup [.str "none", .non, .bl true]) r0 = some (.tup [.str "none", .non, .bl true]) := upd_same
    generalize upd H r0 (.tup [.str "none", .non, .bl true]) = H1 at S1 hr0 ⊢
    have tx : ∀ {H' : Hp} {v : V} {t : Value}, Same H H' → TyX K H v t → TyX K H' v t := fun S h => tyx_same S h
    have lok : ∀ {ks : List Nat} , (∀ k ∈ ks, k < 3) → ks.length ≤ 2000 → (∀ x ∈ linesOf ks, x.length + 2 ≤ sizeLine) ∧ (linesOf ks).length ≤ 10000 := fun {ks} k3 n => by
      refine ⟨fun x hx => ?_, by rw [linesOf_len]; omega⟩
      obtain ⟨i, hi, e⟩ := List.mem_iff_getElem.mp hx
      have := lines_len k3 (i := i) (by rw [List.getElem?_eq_getElem hi, e])
      rw [sizeLine_eq]
      rw [linesOf_len] at hi
      omega
    cases ask with
    | @prog v h =>
      obtain ⟨ty, n1, n2⟩ := h
      refine ⟨_, rfl, rfl, _, rfl, iteT' (by decide +kernel) ?_⟩
      refine ⟨_, rfl, v, rfl, ⟨ty, tx S1 n1, n2⟩, fun d0 H2 kk nd hd => ?_⟩
      have S2 : Same H1 H2 := fun b o hb => kk b o hb fun z => z.elim
      refine ⟨true, EH.eAA, fun _ p np => ?_, fun z => Bool.noConfusion z⟩
      refine ⟨_, rfl, rfl, rfl, d0, _, .str _, rfl, hd, rfl, ?_⟩
      refine ⟨_, rfl, cIA K, d0, .ref (cRE K), .ref (cRE K), false, _, rfl, rfl, EH.xcA, hd, rfl, fun u hu => hu, EH.kAR, _, rfl, _, rfl, iteT ?_⟩
      refine ⟨_, rfl, cIA K, d0, .ref (cIT K), .ref (cIT K), false, _, rfl, rfl, EH.xcA, hd, rfl, fun u hu => hu, EH.kAT, _, rfl, ?_⟩
      refine ⟨by show 3 ≤ sizeLine; decide, fun a na => ?_⟩
      exact ⟨_, rfl, k a _ ((S1.trans S2).trans (Same.new na)) ((S1.trans S2).free na) (SqT.of upd_same)⟩
    | @noText v h =>
      obtain ⟨ty, n1, n2⟩ := h
      refine ⟨_, rfl, rfl, _, rfl, iteF' (by decide +kernel) ?_⟩
      refine ⟨_, rfl, rfl, _, rfl, iteT' (by decide +kernel) ?_⟩
      refine ⟨_, rfl, v, rfl, .inl ⟨⟨ty, tx S1 n1, n2⟩, fun d0 H2 kk nd hd => ?_⟩⟩
      have S2 : Same H1 H2 := fun b o hb => kk b o hb fun z => z.elim
      refine ⟨true, EH.eAA, fun _ p np => ?_, fun z => Bool.noConfusion z⟩
      refine ⟨_, rfl, rfl, rfl, d0, _, .str _, rfl, hd, rfl, ?_⟩
      refine ⟨_, rfl, cIA K, d0, .ref (cRE K), .ref (cRE K), false, _, rfl, rfl, EH.xcA, hd, rfl, fun u hu => hu, EH.kAR, _, rfl, _, rfl, iteT ?_⟩
      refine ⟨_, rfl, cIA K, d0, .ref (cIT K), .ref (cIT K), false, _, rfl, rfl, EH.xcA, hd, rfl, fun u hu => hu, EH.kAT, _, rfl, ?_⟩
      refine ⟨by show 3 ≤ sizeLine; decide, fun a na => ?_⟩
      exact ⟨_, rfl, k a _ ((S1.trans S2).trans (Same.new na)) ((S1.trans S2).free na) (SqT.of upd_same)⟩
    | @empty t z e =>
      refine ⟨_, rfl, rfl, _, rfl, iteF' (by decide +kernel) ?_⟩
      refine ⟨_, rfl, rfl, _, rfl, iteT' (by decide +kernel) ?_⟩
      refine ⟨_, rfl, _, rfl, .inr ⟨t, _, rfl, z, e, fun x hx => ?_, by decide, .inl ⟨rfl, fun d0 H2 kk nd hd => ?_⟩⟩⟩
      · have : x = "" := List.mem_singleton.mp hx
        rw [this]; decide +kernel
      · have S2 : Same H1 H2 := fun b o hb => kk b o hb fun z => z.elim
        refine ⟨false, EH.eTA, fun z => Bool.noConfusion z, fun _ => ?_⟩
        refine ⟨false, EH.eTH, fun z => Bool.noConfusion z, fun _ => ?_⟩
        refine ⟨true, EH.eTT, fun _ p np => ?_, fun z => Bool.noConfusion z⟩
        refine ⟨_, rfl, rfl, rfl, d0, _, .int _, rfl, hd, rfl, ?_⟩
        refine ⟨_, rfl, cIT K, d0, .ref (cIE K), .ref (cIE K), true, _, rfl, rfl, EH.xcT, hd, rfl, fun u hu => hu, EH.kTI, _, rfl, iteT ?_⟩
        refine ⟨_, rfl, cIT K, d0, .ref (cRE K), .ref (cRE K), false, _, rfl, rfl, EH.xcT, hd, rfl, fun u hu => hu, EH.kTR, _, rfl, ?_⟩
        refine ⟨by show 3 ≤ sizeLine; decide, fun a na => ?_⟩
        exact ⟨_, rfl, k a _ ((S1.trans S2).trans (Same.new na)) ((S1.trans S2).free na) (SqT.of upd_same)⟩
    | @two t z e =>
      refine ⟨_, rfl, rfl, _, rfl, iteF' (by decide +kernel) ?_⟩
      refine ⟨_, rfl, rfl, _, rfl, iteT' (by decide +kernel) ?_⟩
      refine ⟨_, rfl, _, rfl, .inr ⟨t, _, rfl, z, e, fun x hx => ?_, by decide, .inr (.inl ⟨rfl, fun d0 H2 kk nd hd => ?_⟩)⟩⟩
      · have : x = "inputs go" := List.mem_singleton.mp hx
        rw [this]; decide +kernel
      · have S2 : Same H1 H2 := fun b o hb => kk b o hb fun z => z.elim
        refine ⟨false, EH.eTA, fun z => Bool.noConfusion z, fun _ => ?_⟩
        refine ⟨false, EH.eTH, fun z => Bool.noConfusion z, fun _ => ?_⟩
        refine ⟨true, EH.eTT, fun _ p np => ?_, fun z => Bool.noConfusion z⟩
        refine ⟨_, rfl, rfl, rfl, d0, _, .int _, rfl, hd, rfl, ?_⟩
        refine ⟨_, rfl, cIT K, d0, .ref (cIE K), .ref (cIE K), true, _, rfl, rfl, EH.xcT, hd, rfl, fun u hu => hu, EH.kTI, _, rfl, iteT ?_⟩
        refine ⟨_, rfl, cIT K, d0, .ref (cRE K), .ref (cRE K), false, _, rfl, rfl, EH.xcT, hd, rfl, fun u hu => hu, EH.kTR, _, rfl, ?_⟩
        refine ⟨by show 3 ≤ sizeLine; decide, fun a na => ?_⟩
        exact ⟨_, rfl, k a _ ((S1.trans S2).trans (Same.new na)) ((S1.trans S2).free na) (SqT.of upd_same)⟩
    | @deep t ks z e k3 n h =>
      refine ⟨_, rfl, rfl, _, rfl, iteF' (by decide +kernel) ?_⟩
      refine ⟨_, rfl, rfl, _, rfl, iteT' (by decide +kernel) ?_⟩
      refine ⟨_, rfl, _, rfl, .inr ⟨t, _, rfl, z, e, (lok k3 n).1, (lok k3 n).2, .inr (.inr ⟨ks, nest_lines ks k3, rfl, rfl, fun _ => fun d0 H2 kk nd hd => ?_, fun h2 => absurd h (by omega), fun h2 => absurd h (by omega)⟩)⟩⟩
      have S2 : Same H1 H2 := fun b o hb => kk b o hb fun z => z.elim
      refine ⟨false, EH.eTA, fun z => Bool.noConfusion z, fun _ => ?_⟩
      refine ⟨false, EH.eTH, fun z => Bool.noConfusion z, fun _ => ?_⟩
      refine ⟨true, EH.eTT, fun _ p np => ?_, fun z => Bool.noConfusion z⟩
      refine ⟨_, rfl, rfl, rfl, d0, _, .int _, rfl, hd, rfl, ?_⟩
      refine ⟨_, rfl, cIT K, d0, .ref (cIE K), .ref (cIE K), true, _, rfl, rfl, EH.xcT, hd, rfl, fun u hu => hu, EH.kTI, _, rfl, iteT ?_⟩
      refine ⟨_, rfl, cIT K, d0, .ref (cRE K), .ref (cRE K), false, _, rfl, rfl, EH.xcT, hd, rfl, fun u hu => hu, EH.kTR, _, rfl, ?_⟩
      refine ⟨by show 3 ≤ sizeLine; decide, fun a na => ?_⟩
      exact ⟨_, rfl, k a _ ((S1.trans S2).trans (Same.new na)) ((S1.trans S2).free na) (SqT.of upd_same)⟩
    | @bad t ks z e k3 h h4 =>
      refine ⟨_, rfl, rfl, _, rfl, iteF' (by decide +kernel) ?_⟩
      refine ⟨_, rfl, rfl, _, rfl, iteT' (by decide +kernel) ?_⟩
      refine ⟨_, rfl, _, rfl, .inr ⟨t, _, rfl, z, e, (lok k3 (by omega)).1, (lok k3 (by omega)).2, .inr (.inr ⟨ks, nest_lines ks k3, rfl, rfl, fun h2 => absurd h (by omega), fun _ _ d0 tp H2 kk nd hd ht => ?_, fun h2 => absurd h4 (by omega)⟩)⟩⟩
      have S2 : Same H1 H2 := fun b o hb => kk b o hb fun z => z.elim
      refine ⟨false, EH.ePA, fun z => Bool.noConfusion z, fun _ => ?_⟩
      refine ⟨false, EH.ePH, fun z => Bool.noConfusion z, fun _ => ?_⟩
      refine ⟨false, EH.ePT, fun z => Bool.noConfusion z, fun _ => ?_⟩
      refine ⟨true, EH.ePP, fun _ p np => ?_, fun z => Bool.noConfusion z⟩
      refine ⟨_, rfl, rfl, rfl, d0, _, .str "rows", rfl, hd, rfl, ?_⟩
      refine ⟨_, rfl, rfl, rfl, d0, _, .ref tp, rfl, hd, rfl, ?_⟩
      refine ⟨_, rfl, cIP K, d0, .ref (cIE K), .ref (cIE K), true, _, rfl, rfl, EH.xcP, hd, rfl, fun u hu => hu, EH.kPI, ?_⟩
      refine ⟨by show 3 ≤ sizeLine; decide, fun a na => ?_⟩
      exact ⟨_, rfl, k a _ ((S1.trans S2).trans (Same.new na)) ((S1.trans S2).free na) (⟨tp, SqT.of upd_same, sameT (Same.new na) ht⟩)⟩
    | @good t ks z e k3 h4 =>
      refine ⟨_, rfl, rfl, _, rfl, iteF' (by decide +kernel) ?_⟩
      refine ⟨_, rfl, rfl, _, rfl, iteT' (by decide +kernel) ?_⟩
      refine ⟨_, rfl, _, rfl, .inr ⟨t, _, rfl, z, e, (lok k3 (by omega)).1, (lok k3 (by omega)).2, .inr (.inr ⟨ks, nest_lines ks k3, rfl, rfl, fun h2 => absurd h4 (by omega), fun _ h2 => absurd h4 (by omega), fun _ x dx H2 fs S2 nx hx => ?_⟩)⟩⟩
      exact ⟨_, rfl, k r0 H2 (S1.trans S2) nr0 (SqT.of (S2 _ _ hr0))⟩
    | @noHist v h =>
      obtain ⟨ty, n1, n2⟩ := h
      refine ⟨_, rfl, rfl, _, rfl, iteF' (by decide +kernel) ?_⟩
      refine ⟨_, rfl, rfl, _, rfl, iteF' (by decide +kernel) ?_⟩
      refine ⟨_, rfl, rfl, _, rfl, iteT' (by decide +kernel) ?_⟩
      refine ⟨_, rfl, v, rfl, .inl ⟨⟨ty, tx S1 n1, n2⟩, fun d0 H2 kk nd hd => ?_⟩⟩
      have S2 : Same H1 H2 := fun b o hb => kk b o hb fun z => z.elim
      refine ⟨true, EH.eAA, fun _ p np => ?_, fun z => Bool.noConfusion z⟩
      refine ⟨_, rfl, rfl, rfl, d0, _, .str _, rfl, hd, rfl, ?_⟩
      refine ⟨_, rfl, cIA K, d0, .ref (cRE K), .ref (cRE K), false, _, rfl, rfl, EH.xcA, hd, rfl, fun u hu => hu, EH.kAR, _, rfl, _, rfl, iteT ?_⟩
      refine ⟨_, rfl, cIA K, d0, .ref (cIT K), .ref (cIT K), false, _, rfl, rfl, EH.xcA, hd, rfl, fun u hu => hu, EH.kAT, _, rfl, ?_⟩
      refine ⟨by show 3 ≤ sizeLine; decide, fun a na => ?_⟩
      exact ⟨_, rfl, k a _ ((S1.trans S2).trans (Same.new na)) ((S1.trans S2).free na) (SqT.of upd_same)⟩
    | @line t n z h n1 =>
      refine ⟨_, rfl, rfl, _, rfl, iteF' (by decide +kernel) ?_⟩
      refine ⟨_, rfl, rfl, _, rfl, iteF' (by decide +kernel) ?_⟩
      refine ⟨_, rfl, rfl, _, rfl, iteT' (by decide +kernel) ?_⟩
      refine ⟨_, rfl, _, rfl, .inr ⟨t, n, rfl, z, h, n1, fun d0 H2 kk nd hd => ?_⟩⟩
      have S2 : Same H1 H2 := fun b o hb => kk b o hb fun z => z.elim
      refine ⟨false, EH.eTA, fun z => Bool.noConfusion z, fun _ => ?_⟩
      refine ⟨false, EH.eTH, fun z => Bool.noConfusion z, fun _ => ?_⟩
      refine ⟨true, EH.eTT, fun _ p np => ?_, fun z => Bool.noConfusion z⟩
      refine ⟨_, rfl, rfl, rfl, d0, _, .int _, rfl, hd, rfl, ?_⟩
      refine ⟨_, rfl, cIT K, d0, .ref (cIE K), .ref (cIE K), true, _, rfl, rfl, EH.xcT, hd, rfl, fun u hu => hu, EH.kTI, _, rfl, iteT ?_⟩
      refine ⟨_, rfl, cIT K, d0, .ref (cRE K), .ref (cRE K), false, _, rfl, rfl, EH.xcT, hd, rfl, fun u hu => hu, EH.kTR, _, rfl, ?_⟩
      refine ⟨by show 3 ≤ sizeLine; decide, fun a na => ?_⟩
      exact ⟨_, rfl, k a _ ((S1.trans S2).trans (Same.new na)) ((S1.trans S2).free na) (SqT.of upd_same)⟩
    | @noList v h =>
      obtain ⟨ty, n1, n2⟩ := h
      refine ⟨_, rfl, rfl, _, rfl, iteF' (by decide +kernel) ?_⟩
      refine ⟨_, rfl, rfl, _, rfl, iteF' (by decide +kernel) ?_⟩
      refine ⟨_, rfl, rfl, _, rfl, iteF' (by decide +kernel) ?_⟩
      refine ⟨_, rfl, v, rfl, .inl ⟨⟨ty, tx S1 n1, n2⟩, fun d0 H2 kk nd hd => ?_⟩⟩
      have S2 : Same H1 H2 := fun b o hb => kk b o hb fun z => z.elim
      refine ⟨false, EH.eHA, fun z => Bool.noConfusion z, fun _ => ?_⟩
      refine ⟨true, EH.eHH, fun _ p np => ?_, fun z => Bool.noConfusion z⟩
      refine ⟨_, rfl, rfl, rfl, d0, _, .int _, rfl, hd, rfl, ?_⟩
      refine ⟨_, rfl, cIH K, d0, .ref (cIE K), .ref (cIE K), true, _, rfl, rfl, EH.xcH, hd, rfl, fun u hu => hu, EH.kHI, _, rfl, iteT ?_⟩
      refine ⟨_, rfl, cIH K, d0, .ref (cIT K), .ref (cIT K), false, _, rfl, rfl, EH.xcH, hd, rfl, fun u hu => hu, EH.kHT, _, rfl, ?_⟩
      refine ⟨by show 3 ≤ sizeLine; decide, fun a na => ?_⟩
      exact ⟨_, rfl, k a _ ((S1.trans S2).trans (Same.new na)) ((S1.trans S2).free na) (SqT.of upd_same)⟩
    | @emptyL a h =>
      refine ⟨_, rfl, rfl, _, rfl, iteF' (by decide +kernel) ?_⟩
      refine ⟨_, rfl, rfl, _, rfl, iteF' (by decide +kernel) ?_⟩
      refine ⟨_, rfl, rfl, _, rfl, iteF' (by decide +kernel) ?_⟩
      refine ⟨_, rfl, _, rfl, .inr ⟨a, rfl, S1 _ _ h, fun d0 H2 kk nd hd => ?_⟩⟩
      have S2 : Same H1 H2 := fun b o hb => kk b o hb fun z => z.elim
      refine ⟨false, EH.eHA, fun z => Bool.noConfusion z, fun _ => ?_⟩
      refine ⟨true, EH.eHH, fun _ p np => ?_, fun z => Bool.noConfusion z⟩
      refine ⟨_, rfl, rfl, rfl, d0, _, .int _, rfl, hd, rfl, ?_⟩
      refine ⟨_, rfl, cIH K, d0, .ref (cIE K), .ref (cIE K), true, _, rfl, rfl, EH.xcH, hd, rfl, fun u hu => hu, EH.kHI, _, rfl, iteT ?_⟩
      refine ⟨_, rfl, cIH K, d0, .ref (cIT K), .ref (cIT K), false, _, rfl, rfl, EH.xcH, hd, rfl, fun u hu => hu, EH.kHT, _, rfl, ?_⟩
      refine ⟨by show 3 ≤ sizeLine; decide, fun a na => ?_⟩
      exact ⟨_, rfl, k a _ ((S1.trans S2).trans (Same.new na)) ((S1.trans S2).free na) (SqT.of upd_same)⟩
end
end OR

set_option Elab.async false
set_option maxRecDepth 100000
set_option maxHeartbeats 4000000
set_option linter.all false
namespace OR
open PySem PySem.Spec PyProof.Rows L2 TS2
def nlS : Str := "\n"
theorem nl_codes : nlS = SX.S [10] := by decide +kernel
theorem split_join {ls : List Str} (hne : ls ≠ []) (h : ∀ x ∈ ls, 10 ∉ x.cps.toList) : Txt.split (Txt.join nlS ls) nlS = ls := by
  have e : ls = (ls.map fun x => x.cps.toList).map SX.S := by
    rw [List.map_map]
    conv => lhs; rw [← List.map_id ls]
    exact List.map_congr_left fun x _ => (SX.S_tl x).symm
  have e2 : Txt.join nlS ls = SX.S (TL.joinL [10] (ls.map fun x => x.cps.toList)) := by
    conv => lhs; rw [e, nl_codes]
    exact SX.join_S _ _
  rw [e2, nl_codes, SX.split_S (by simp) (by decide), SX.spl_join (by simpa using hne) (fun p hp => ?_)]
  · exact e.symm
  · obtain ⟨x, hx, rfl⟩ := List.mem_map.mp hp
    exact h x hx
theorem kdT_nl : ∀ k, k < 3 → 10 ∉ (kdT k).cps.toList := by decide +kernel
theorem two_nl : 10 ∉ ("  " : Str).cps.toList ∧ 10 ∉ sI.cps.toList ∧ 10 ∉ sR.cps.toList := by decide +kernel
theorem lineOf_nl (v k : Nat) (h : k < 3) : 10 ∉ (lineOf v k).cps.toList := by
  have e : (lineOf v k).cps.toList = (rpt "  " v).cps.toList ++ (kdT k).cps.toList := by
    show (Array.append _ _).toList = _
    exact Array.toList_append
  rw [e, rpt_list]
  intro hm
  rcases List.mem_append.mp hm with hm | hm
  · obtain ⟨l, hl, hx⟩ := List.mem_flatten.mp hm
    rw [List.eq_of_mem_replicate hl] at hx
    exact two_nl.1 hx
  · exact kdT_nl k h hm
theorem linesFrom_nl (ks : List Nat) : ∀ v, (∀ k ∈ ks, k < 3) → ∀ x ∈ linesFrom v ks, 10 ∉ x.cps.toList := by
  induction ks with
  | nil => intro v _ x hx; cases hx
  | cons k ks ih =>
    intro v h x hx
    rcases List.mem_cons.mp hx with rfl | hx
    · exact lineOf_nl v k (h k List.mem_cons_self)
    · exact ih (v + 1) (fun y hy => h y (List.mem_cons_of_mem _ hy)) x hx
theorem linesOf_nl (ks : List Nat) (h : ∀ k ∈ ks, k < 3) : ∀ x ∈ linesOf ks, 10 ∉ x.cps.toList := fun x hx => by
  rcases List.mem_cons.mp hx with rfl | hx
  · exact two_nl.2.1
  rcases List.mem_cons.mp hx with rfl | hx
  · exact two_nl.2.2
  exact linesFrom_nl ks 1 h x hx
theorem linesFrom_sum (ks : List Nat) (m : Nat) : ∀ v, (∀ k ∈ ks, k < 3) → v + ks.length ≤ m → ((linesFrom v ks).map (·.length)).sum ≤ ks.length * (2 * m + 6) := by
  induction ks with
  | nil => intro v _ _; simp [linesFrom]
  | cons k ks ih =>
    intro v h hm
    rw [List.length_cons] at hm
    have i1 := ih (v + 1) (fun y hy => h y (List.mem_cons_of_mem _ hy)) (by omega)
    have i2 := lineOf_len v k (h k List.mem_cons_self)
    show ((lineOf v k).length :: (linesFrom (v + 1) ks).map (·.length)).sum ≤ (ks.length + 1) * (2 * m + 6)
    rw [List.sum_cons, Nat.succ_mul]
    omega
theorem linesOf_sum (ks : List Nat) (h : ∀ k ∈ ks, k < 3) (n : ks.length ≤ 1600) : ((linesOf ks).map (·.length)).sum + (linesOf ks).length * nlS.length ≤ 16000000 := by
  have i1 := linesFrom_sum ks 1601 1 h (by omega)
  have i2 : ks.length * (2 * 1601 + 6) ≤ 1600 * (2 * 1601 + 6) := Nat.mul_le_mul_right _ n
  have e : ((linesOf ks).map (·.length)).sum = sI.length + (sR.length + ((linesFrom 1 ks).map (·.length)).sum) := by
    show (sI.length :: sR.length :: (linesFrom 1 ks).map (·.length)).sum = _
    rw [List.sum_cons, List.sum_cons]
  have e1 : sI.length = 9 ∧ sR.length = 4 ∧ nlS.length = 1 := by decide +kernel
  rw [e, e1.1, e1.2.1, e1.2.2, linesOf_len]
  omega
theorem join_lines (ks : List Nat) (h : ∀ k ∈ ks, k < 3) (n : ks.length ≤ 1600) : (Txt.join nlS (linesOf ks)).length + 2 ≤ sizeLine ∧ Txt.split (Txt.join nlS (linesOf ks)) nlS = linesOf ks := by
  refine ⟨?_, split_join (by unfold linesOf; simp) (linesOf_nl ks h)⟩
  have h1 := linesOf_sum ks h n
  have h2 : (Txt.join nlS (linesOf ks)).length ≤ ((linesOf ks).map (·.length)).sum + (linesOf ks).length * nlS.length := by rw [TL.join_eq]; exact StrLaws.join_length_le nlS (linesOf ks)
  rw [sizeLine_eq]
  omega
/-! ### what was told, compared -/
def TD.dat : TD → PyData
  | .arg p => .tuple [.str "argument", .str p, .bool true]
  | .hist i => .tuple [.str "history", .int i, .bool true]
  | .line n => .tuple [.str "line", .int n, .bool true]
  | .rows path => .tuple [.str "rows", .tuple (path.map .int), .bool true]
  | .ok => .tuple [.str "none", .none, .bool true]
theorem ints_dp {K : PySem.W.Frag} {H : Hp} : ∀ l : List Int, DpAll K H (l.map V.int) (l.map PyData.int)
  | [] => .nil
  | x :: l => .cons (.int x) (ints_dp l)
theorem TD.dp {K : PySem.W.Frag} {H : Hp} {a : Addr} {d : TD} (h : d.At K H a) : Dp K H (.ref a) d.dat := by
  cases d with
  | arg p => exact .tup h (.cons (.str _) (.cons (.str _) (.cons (.bl _) .nil)))
  | hist i => exact .tup h (.cons (.str _) (.cons (.int _) (.cons (.bl _) .nil)))
  | line n => exact .tup h (.cons (.str _) (.cons (.int _) (.cons (.bl _) .nil)))
  | rows path =>
    obtain ⟨t, h1, h2⟩ := h
    exact .tup h1 (.cons (.str _) (.cons (.tup h2 (ints_dp path)) (.cons (.bl _) .nil)))
  | ok => exact .tup h (.cons (.str _) (.cons .non (.cons (.bl _) .nil)))
/-- told values whose equality is known -/
def TD.fine (d : TD) : Bool := SeqAt.shaped d.dat && PyData.eqv d.dat d.dat
theorem ne_told {K : PySem.W.Frag} {H : Hp} {a b : Addr} {Q : VK} {d : TD} (f : d.fine = true) (ha : d.At K H a) (hb : d.At K H b) (k : Q (.bl false) H) : rNeD K (.ref a) (.ref b) H Q := by
  obtain ⟨f1, f2⟩ := Bool.and_eq_true_iff.mp f
  refine ⟨d.dat, d.dat, TD.dp ha, TD.dp hb, f1, f1, ?_⟩
  rw [f2]
  exact k
theorem TD.At.same {K : PySem.W.Frag} {H H' : Hp} {a : Addr} {d : TD} (h : d.At K H a) (S : Same H H') : d.At K H' a := by
  cases d with
  | arg p => exact sameT S h
  | hist i => exact sameT S h
  | line n => exact sameT S h
  | rows path => obtain ⟨t, h1, h2⟩ := h; exact ⟨t, sameT S h1, sameT S h2⟩
  | ok => exact sameT S h
theorem fines : (TD.arg pProg).fine = true ∧ (TD.arg pText).fine = true ∧ (TD.hist (-1)).fine = true ∧ (TD.hist 0).fine = true ∧ (TD.line 1).fine = true ∧ (TD.line 2).fine = true ∧ (TD.line 15).fine = true ∧ (TD.rows zeros9).fine = true ∧ TD.ok.fine = true := by decide +kernel
end OR

set_option Elab.async false
set_option maxRecDepth 100000
set_option maxHeartbeats 16000000
set_option linter.all false
namespace OR
open PySem PySem.Spec PyProof.Rows L2 TS2
theorem hist_small : ∀ i, i < 15 → ∀ s ∈ signs, (histOf i s).length ≤ 100 ∧ (∀ l ∈ Txt.split (histOf i s) nlS, l.length ≤ 100 ∧ (∀ x ∈ splS l, x.length ≤ 100) ∧ (splS l).length ≤ 100) := by decide +kernel
theorem empty_small : (∀ l ∈ Txt.split "" nlS, l.length ≤ 100 ∧ (∀ x ∈ splS l, x.length ≤ 100) ∧ (splS l).length ≤ 100) := by decide +kernel
theorem bad_of {t : Str} {n : Nat} (h : badAt t = some n) (sm : ∀ l ∈ Txt.split t nlS, l.length ≤ 100 ∧ (∀ x ∈ splS l, x.length ≤ 100) ∧ (splS l).length ≤ 100) : BadAt (Txt.split t nlS) n ∧ n ≤ 100 := by
  have ok : ∀ (l : Str) (b : Bool), l ∈ Txt.split t nlS → LineIs l b → LineOk l b := fun l b hl li => by
    obtain ⟨s1, s2, s3⟩ := sm l hl
    exact ⟨by rw [sizeLine_eq]; omega, li, s2, s3⟩
  unfold badAt at h
  have e0 : Txt.split t "\n" = Txt.split t nlS := rfl
  rw [e0] at h
  generalize Txt.split t nlS = ls at h ok ⊢
  cases ls with
  | nil => cases h
  | cons a r =>
    by_cases c : badLine a = true
    · simp only [c, if_true] at h
      cases Option.some.inj h
      refine ⟨⟨by simp, fun i hi l hl => ?_⟩, by decide⟩
      have i0 : i = 0 := by omega
      subst i0
      cases Option.some.inj hl
      exact ok _ _ List.mem_cons_self (LineIs.of c)
    · by_cases g : a = "begin go"
      · subst g
        have h : (if badLine "begin go" = true then some 0 else if ("begin go" : Str) = "begin go" then (match r with | b :: _ => if badLine b = true then some 1 else none | [] => none) else none) = some n := h
        rw [if_neg c, if_pos rfl] at h
        cases r with
        | nil => cases h
        | cons b r2 =>
          by_cases cb : badLine b = true
          · have h : (if badLine b = true then some 1 else none) = some n := h
            rw [if_pos cb] at h
            cases Option.some.inj h
            refine ⟨⟨by simp, fun i hi l hl => ?_⟩, by decide⟩
            cases i with
            | zero =>
              cases Option.some.inj hl
              have li := LineIs.word go_line.1 go_line.2.1
              rw [go_line.2.2] at li
              exact ok _ _ List.mem_cons_self li
            | succ i =>
              have i0 : i = 0 := by omega
              subst i0
              cases Option.some.inj hl
              exact ok _ _ (by simp) (LineIs.of cb)
          · have h : (if badLine b = true then some 1 else none) = some n := h
            rw [if_neg cb] at h
            cases h
      · simp only [c, Bool.false_eq_true, if_false, g] at h
        cases h
theorem Adv.seq {K : PySem.W.Frag} {p a : Addr} {H H' : Hp} {xs : List V} (A : Adv p H H') (hp : PoolAt H p) (h : SqL K H a xs) : SqL K H' a xs := by
  rcases h with (h | ⟨o, h⟩) | h
  · exact .inl (.inl (A.at_ h hp fun _ z => by cases z))
  · exact .inl (.inr ⟨o, A.at_ h hp fun _ z => by cases z⟩)
  · exact .inr h
/-- no text, no program -/
def OddV (K : PySem.W.Frag) (H : Hp) (v : V) : Prop := NoProg K H v ∧ NoStrT K H v
def spLaw (K : PySem.W.Frag) : Sp := fun vs H Q _ => ∃ (a : Addr) (ns : List Int), vs = [.ref a] ∧ SqL K H a (ns.map V.int) ∧ ns.length ≤ 63 ∧ ∀ H', Q (.bl true) H'
def wj : Nat → Str
  | 0 => pProg
  | _ => pText
def dj (j : Nat) : TD := .arg (wj j)
theorem fine_j : ∀ j, j < 3 → (dj j).fine = true ∧ ([pProg, pText, pText])[j]? = some (wj j) := by decide +kernel
theorem asks_j {K : PySem.W.Frag} {H : Hp} {v : V} (o : OddV K H v) : ∀ j, j < 3 → Asks K H ((0 : Int) + (j : Nat)) v (dj j)
  | 0, _ => .prog o.1
  | 1, _ => .noText o.2
  | 2, _ => .noHist o.2
  | j + 3, h => absurd h (by omega)
theorem OddV.same {K : PySem.W.Frag} {H H' : Hp} {v : V} (o : OddV K H v) (S : Same H H') : OddV K H' v := by
  obtain ⟨⟨t1, a1, b1⟩, ⟨t2, a2, b2⟩⟩ := o
  exact ⟨⟨t1, tyx_same S a1, b1⟩, ⟨t2, tyx_same S a2, b2⟩⟩
theorem call_ne {K : PySem.W.Frag} {σ : L2.St} {H : Hp} {Q : VK} {E : XK} {n : Int} {v x : V} {s : Str} {d : TD} {tn tv tx : TE} (hn : Val tn σ H (.int n)) (hv : Val tv σ H v) (hx : ∀ H', Val tx σ H' x) (ask : Asks K H n v d) (f : d.fine = true)
    (at_ : ∀ H' u, H' u = some (.tup [.str s, x, .bl true]) → d.At K H' u) (k : ∀ H', Same H H' → Q (.bl false) H') :
    tOp (rNeD K) (tCall (spCallT K) [] E (tCons tn (tCons tv tNil))) (tTup (tCons (tC (.str s)) (tCons tx (tCons (tC (.bl true)) tNil)))) σ H Q := by
  refine hn _ (hv _ ⟨n, v, d, rfl, ask, fun a H' S na hd => ?_⟩)
  refine hx H' _ ⟨by show 3 ≤ sizeLine; decide, fun u nu => ?_⟩
  exact ne_told f (hd.same (Same.new nu)) (at_ _ _ upd_same) (k _ (S.trans (Same.new nu)))
end OR

set_option Elab.async false
set_option maxRecDepth 100000
set_option maxHeartbeats 16000000
set_option linter.all false
namespace OR
open PySem PySem.Spec PyProof.Rows L2 TS2
section
variable {P : Program} {w : World} {K : PySem.W.Frag} {mg : Str → Option Value} {base : Heap}
theorem ok_law {kp : Nat} {f : Addr} {fd : FuncData} (F : FnP K "law" "law" s_law f fd) (T : Tx w K mg) (kP : ∀ t ∈ (["NoneType", "list", "str", "int", "bool", "dict", "tuple"] : List String), PySem.W.kitOne K (.type t) (.ref (He.ga K "Program")) = some false) (kPP : ∀ (H : Hp) (a dx : Addr) (fs : List (Str × V)), H a = some (.ins (He.ga K "Program") dx fs) → TyX K H (.ref a) (.ref (He.ga K "Program"))) (kPP2 : PySem.W.kitOne K (.ref (He.ga K "Program")) (.ref (He.ga K "Program")) = some true)
    (h2 : 2 ≤ kp) (G__law_pool : Def P w K mg base CX0 1 "_law_pool" p__law_pool (spPool K)) (G__law_draw : Def P w K mg base CX0 1 "_law_draw" p__law_draw spDraw) (G__law_item : Def P w K mg base CX0 2 "_law_item" p__law_item (spItem K)) (G__law_nested : Def P w K mg base CX0 2 "_law_nested" p__law_nested (spNested K)) (G__law_nested_due : Def P w K mg base CX0 1 "_law_nested_due" p__law_nested_due (spDue K))
    (G__law_call : Def P w K mg base CX0 (kp + 1) "_law_call" p__law_call (spCallT K)) (G_read_program : Def P w K mg base (L2.CX P w) kp "read_program" p_read_program (spReadProg K)) : FnOk P w K mg base CX0 (kp + 2) f fd p_law (spLaw K) := by
  refine F.ok sc_law (fun vs H Q E h => ?_) (fun cdv A outer s H vs Q E hr h => ?_)
  · obtain ⟨a, ns, rfl, _⟩ := h
    rfl
  · obtain ⟨a, ns, rfl, ha, ns63, kq⟩ := h
    refine ⟨_, PSs.nox (pss_cons (ps_set (i := 1) sc_law.nd rfl (.inl rfl) (pe_fn G__law_pool (hr.mono (by omega)) (by rfl) pass0 (pa_cons (pv 0) (pa_cons pe_int pa_nil))))
      (pss_cons (ps_for PassesOwn.never rfl (pi_list (pe_lst (pa_cons pe_non (pa_cons pe_int (pa_cons pe_bl (pa_cons (pe_lst pa_nil) (pa_cons (pe_tup (pa_cons pe_str pa_nil)) (pa_cons pe_dnewK (pa_cons (pe_lst (pa_cons pe_str (pa_cons pe_str pa_nil))) pa_nil))))))))) (pg_name (i := 2) sc_law.nd rfl (.inl rfl)) (pss_one (ps_for PassesOwn.never rfl (pi_range1 (by rfl) T.b_range (pa_cons pe_int pa_nil)) (pg_name (i := 4) sc_law.nd rfl (.inl rfl)) (pss_one (ps_if (pt_cmpR (op_neD hr.units) (pe_fn G__law_call (hr.mono (by omega)) (by rfl) pass0 (pa_cons (pv 4) (pa_cons (pv 2) pa_nil))) (pe_tup (pa_cons pe_str (pa_cons (pe_ix ix_list (pe_lst (pa_cons pe_str (pa_cons pe_str (pa_cons pe_str pa_nil)))) (pv 4) (fun _ _ => rfl)) (pa_cons pe_bl pa_nil)))) (nomark _)) (pss_one (ps_ret pe_bl)) pss_nil)))))
      (pss_cons (ps_if (pt_cmpR (op_neD hr.units) (pe_fn G__law_call (hr.mono (by omega)) (by rfl) pass0 (pa_cons pe_int (pa_cons pe_str pa_nil))) (pe_tup (pa_cons pe_str (pa_cons pe_str (pa_cons pe_bl pa_nil)))) (nomark _)) (pss_one (ps_ret pe_bl)) pss_nil)
      (pss_cons (ps_for PassesOwn.never rfl (pi_list (pe_lst (pa_cons pe_non (pa_cons pe_str (pa_cons (pe_tup pa_nil) (pa_cons pe_dnewK (pa_cons pe_int (pa_cons (pe_tup (pa_cons (pe_tup (pa_cons pe_str (pa_cons pe_str pa_nil))) pa_nil)) pa_nil)))))))) (pg_name (i := 2) sc_law.nd rfl (.inl rfl)) (pss_one (ps_if (pt_cmpR (op_neD hr.units) (pe_fn G__law_call (hr.mono (by omega)) (by rfl) pass0 (pa_cons pe_int (pa_cons (pv 2) pa_nil))) (pe_tup (pa_cons pe_str (pa_cons (pe_un un_neg pe_int) (pa_cons pe_bl pa_nil)))) (nomark _)) (pss_one (ps_ret pe_bl)) pss_nil)))
      (pss_cons (ps_if (PW.pt (pw_or (pt_cmpR (op_neD hr.units) (pe_fn G__law_call (hr.mono (by omega)) (by rfl) pass0 (pa_cons pe_int (pa_cons (pe_lst pa_nil) pa_nil))) (pe_tup (pa_cons pe_str (pa_cons pe_int (pa_cons pe_bl pa_nil)))) (nomark _)) (pw_or1 (pt_cmpR (op_neD hr.units) (pe_fn G__law_call (hr.mono (by omega)) (by rfl) pass0 (pa_cons pe_int (pa_cons pe_str pa_nil))) (pe_tup (pa_cons pe_str (pa_cons pe_int (pa_cons pe_bl pa_nil)))) (nomark _))))) (pss_one (ps_ret pe_bl)) pss_nil)
      (pss_cons (ps_if (PW.pt (pw_or (pt_cmpR (op_neD hr.units) (pe_fn G__law_call (hr.mono (by omega)) (by rfl) pass0 (pa_cons pe_int (pa_cons pe_str pa_nil))) (pe_tup (pa_cons pe_str (pa_cons pe_int (pa_cons pe_bl pa_nil)))) (nomark _)) (pw_or1 (pt_cmpR (op_neD hr.units) (pe_fn G__law_call (hr.mono (by omega)) (by rfl) pass0 (pa_cons pe_int (pa_cons pe_str pa_nil))) (pe_tup (pa_cons pe_str (pa_cons pe_int (pa_cons pe_bl pa_nil)))) (nomark _))))) (pss_one (ps_ret pe_bl)) pss_nil)
      (pss_cons (ps_for PassesOwn.never rfl (pi_range2 (by rfl) T.b_range (pa_cons pe_int (pa_cons pe_int pa_nil))) (pg_name (i := 3) sc_law.nd rfl (.inl rfl)) (pss_one (ps_if (pt_cmpR op_lt (pv 3) (pe_callB call_len_seq (by rfl) T.b_len PySem.boot_len (pa_cons (pv 0) pa_nil)) (nomark _)) (pss_cons (ps_set (i := 1) sc_law.nd rfl (.inl rfl) (pe_fn G__law_pool (hr.mono (by omega)) (by rfl) pass0 (pa_cons (pv 0) (pa_cons (pv 3) pa_nil))))
      (pss_cons (ps_set (i := 5) sc_law.nd rfl (.inl rfl) (pe_op op_add pe_int (pe_fn G__law_draw (hr.mono (by omega)) (by rfl) pass0 (pa_cons (pv 1) (pa_cons pe_int pa_nil)))))
      (C8.pss_cut (ps_if (PW.pt (pw_and (pt_cmpR op_eq (pv 3) pe_int (nomark _)) (pw_and1 (pt_cmpR op_eq (pe_fn G__law_draw (hr.mono (by omega)) (by rfl) pass0 (pa_cons (pv 1) (pa_cons pe_int pa_nil))) pe_int (nomark _))))) (pss_one (ps_set (i := 5) sc_law.nd rfl (.inl rfl) pe_int)) pss_nil)
      (pss_cons (ps_asg (pe_fn G__law_nested (hr.mono (by omega)) (by rfl) pass0 (pa_cons (pv 1) (pa_cons (pv 5) pa_nil))) (pg_tup (by rfl) (pgs_cons (pg_name (i := 10) sc_law.nd rfl (.inl rfl)) (pgs_cons (pg_name (i := 11) sc_law.nd rfl (.inl rfl)) pgs_nil))))
      (pss_cons (ps_set (i := 6) sc_law.nd rfl (.inl rfl) (pe_fn G__law_nested_due (hr.mono (by omega)) (by rfl) pass0 (pa_cons (pv 10) (pa_cons (pv 11) (pa_cons (pv 5) pa_nil)))))
      (pss_cons (ps_if (pt_cmpR (op_neD hr.units) (pe_fn G__law_call (hr.mono (by omega)) (by rfl) pass0 (pa_cons pe_int (pa_cons (pe_join pe_str (pv 10)) pa_nil))) (pv 6) (nomark _)) (pss_one (ps_ret pe_bl)) pss_nil)
      (pss_cons (ps_set (i := 7) sc_law.nd rfl (.inl rfl) pe_str)
      (pss_cons (ps_set (i := 8) sc_law.nd rfl (.inl rfl) (pe_fn G__law_draw (hr.mono (by omega)) (by rfl) pass0 (pa_cons (pv 1) (pa_cons (pe_op op_add (pe_callB call_len_str (by rfl) T.b_len PySem.boot_len (pa_cons (pv 7) pa_nil)) pe_int) pa_nil))))
      (pss_cons (ps_set (i := 9) sc_law.nd rfl (.inl rfl) (pe_fn G__law_item (hr.mono (by omega)) (by rfl) pass0 (pa_cons (pv 1) (pa_cons (pe_lst (pa_cons pe_str (pa_cons pe_str (pa_cons pe_str (pa_cons pe_str (pa_cons pe_str (pa_cons pe_str (pa_cons pe_str pa_nil)))))))) pa_nil))))
      (pss_one (ps_if (pt_cmpR op_ne (pe_ix ix_tup (pe_fn G__law_call (hr.mono (by omega)) (by rfl) pass0 (pa_cons pe_int (pa_cons (pe_op op_add_str (pe_op op_add_str (pe_slice sl_str (pv 7) po_none (po_some (pv 8))) (pv 9)) (pe_slice sl_str (pv 7) (po_some (pv 8)) po_none)) pa_nil))) pe_int (fun _ _ => rfl)) pe_str (nomark _)) (pss_one (ps_ret pe_bl)) pss_nil))))))))))) pss_nil)))
      (pss_one (ps_ret (pe_callB call_isi (by rfl) T.b_isinstance (by decide +kernel) (pa_cons (pe_fn G_read_program (hr.mono (by omega)) (by rfl) (passes_call (W := fun _ _ _ _ => False) takes0 (fun _ _ _ _ h => h)) (pa_cons pe_str pa_nil)) (pa_cons (pe_ref (by rfl) T.m_Program) pa_nil)))))))))))), ?_⟩
    refine ⟨_, rfl, a, ns, 0, rfl, ha, by decide, ns63, fun p b c0 c np => ?_⟩
    have S1 : Same H (upd H p (.dK (poolK b c0 c))) := Same.new np
    have hp1 : PoolAt (upd H p (.dK (poolK b c0 c))) p := ⟨_, _, _, upd_same⟩
    generalize upd H p (.dK (poolK b c0 c)) = H1 at S1 hp1 ⊢
    -- the odd values
    refine ⟨by show 0 ≤ sizeLine; decide, fun a1 n1 => ?_⟩
    have T1 : Same H1 (upd H1 a1 (.lst [])) := Same.new n1
    have h1 : upd H1 a1 (.lst []) a1 = some (.lst []) := upd_same
    generalize upd H1 a1 (.lst []) = H2 at T1 h1 ⊢
    refine ⟨by show 1 ≤ sizeLine; decide, fun a2 n2 => ?_⟩
    have T2 : Same H2 (upd H2 a2 (.tup [.str "a"])) := Same.new n2
    have h2' : upd H2 a2 (.tup [.str "a"]) a2 = some (.tup [.str "a"]) := upd_same
    generalize upd H2 a2 (.tup [.str "a"]) = H3 at T2 h2' ⊢
    intro a3 n3
    have T3 : Same H3 (upd H3 a3 (.dK [])) := Same.new n3
    have h3 : upd H3 a3 (.dK []) a3 = some (.dK []) := upd_same
    generalize upd H3 a3 (.dK []) = H4 at T3 h3 ⊢
    refine ⟨by show 2 ≤ sizeLine; decide, fun a4 n4 => ?_⟩
    have T4 : Same H4 (upd H4 a4 (.lst [.str "inputs go", .str "rows"])) := Same.new n4
    have h4 : upd H4 a4 (.lst [.str "inputs go", .str "rows"]) a4 = some (.lst [.str "inputs go", .str "rows"]) := upd_same
    generalize upd H4 a4 (.lst [.str "inputs go", .str "rows"]) = H5 at T4 h4 ⊢
    refine ⟨by show 7 ≤ sizeLine; decide, fun L nL => ?_⟩
    have T5 : Same H5 (upd H5 L (.lst [.non, .int 5, .bl true, .ref a1, .ref a2, .ref a3, .ref a4])) := Same.new nL
    have hL : upd H5 L (.lst [.non, .int 5, .bl true, .ref a1, .ref a2, .ref a3, .ref a4]) L = some (.lst [.non, .int 5, .bl true, .ref a1, .ref a2, .ref a3, .ref a4]) := upd_same
    generalize upd H5 L (.lst [.non, .int 5, .bl true, .ref a1, .ref a2, .ref a3, .ref a4]) = H6 at T5 hL ⊢
    have odd : ∀ v ∈ ([.non, .int 5, .bl true, .ref a1, .ref a2, .ref a3, .ref a4] : List V), OddV K H6 v := by
      have b1 := T5 _ _ (T4 _ _ (T3 _ _ (T2 _ _ h1)))
      have b2 := T5 _ _ (T4 _ _ (T3 _ _ h2'))
      have b3 := T5 _ _ (T4 _ _ h3)
      have b4 := T5 _ _ h4
      intro v hv
      have hv : v = .non ∨ v = .int 5 ∨ v = .bl true ∨ v = .ref a1 ∨ v = .ref a2 ∨ v = .ref a3 ∨ v = .ref a4 := by simpa using hv
      rcases hv with rfl | rfl | rfl | rfl | rfl | rfl | rfl
      · exact ⟨⟨_, .base .non, kP _ (by simp)⟩, ⟨_, .base .non, kit_ty (by decide +kernel)⟩⟩
      · exact ⟨⟨_, .base (.int 5), kP _ (by simp)⟩, ⟨_, .base (.int 5), kit_ty (by decide +kernel)⟩⟩
      · exact ⟨⟨_, .base (.bl true), kP _ (by simp)⟩, ⟨_, .base (.bl true), kit_ty (by decide +kernel)⟩⟩
      · exact ⟨⟨_, .base (.lst b1), kP _ (by simp)⟩, ⟨_, .base (.lst b1), kit_ty (by decide +kernel)⟩⟩
      · exact ⟨⟨_, .base (.tup b2), kP _ (by simp)⟩, ⟨_, .base (.tup b2), kit_ty (by decide +kernel)⟩⟩
      · exact ⟨⟨_, .base (.dK b3), kP _ (by simp)⟩, ⟨_, .base (.dK b3), kit_ty (by decide +kernel)⟩⟩
      · exact ⟨⟨_, .base (.lst b4), kP _ (by simp)⟩, ⟨_, .base (.lst b4), kit_ty (by decide +kernel)⟩⟩
    have S6 : Same H1 H6 := ((((T1.trans T2).trans T3).trans T4).trans T5)
    refine ⟨L, rfl, ⟨_, SqL.of hL⟩, ?_⟩
    refine for_it (walk_list (K := K) (a := L) (xs := [.non, .int 5, .bl true, .ref a1, .ref a2, .ref a3, .ref a4])) (fun i σ' H' => (∃ y2 y3 y4 y5 y6 y7 y8 y9 y10 y11, σ' = [some (.ref a), some (.ref p), y2, y3, y4, y5, y6, y7, y8, y9, y10, y11]) ∧ Same H6 H')
      ⟨⟨_, _, _, _, _, _, _, _, _, _, rfl⟩, Same.refl _⟩ (fun i σ' H' _ q => SqL.of (q.2 _ _ hL)) (fun i v σ' H7 H8 hi q y => ?_) (fun σ' H7 q => ?_)
    · obtain ⟨⟨y2, y3, y4, y5, y6, y7, y8, y9, y10, y11, rfl⟩, S7⟩ := q
      obtain ⟨rfl, hv⟩ := y
      have ov := odd v (List.mem_of_getElem? hv)
      refine ⟨3, rfl, by decide, by decide, ?_⟩
      refine for_it (walk_range (lo := 0) (n := 3)) (fun j σ' H' => (∃ y3 y4 y5 y6 y7 y8 y9 y10 y11, σ' = [some (.ref a), some (.ref p), some v, y3, y4, y5, y6, y7, y8, y9, y10, y11]) ∧ Same H6 H')
        ⟨⟨_, _, _, _, _, _, _, _, _, rfl⟩, S7⟩ (fun _ _ _ _ _ => trivial) (fun j x σ' H9 H10 hj q y => ?_) (fun σ' H9 q => ?_)
      · obtain ⟨⟨y3, y4, y5, y6, y7, y8, y9, y10, y11, rfl⟩, S9⟩ := q
        obtain ⟨rfl, rfl⟩ := y
        obtain ⟨fj, ej⟩ := fine_j j hj
        refine ⟨_, rfl, _, rfl, _, v, dj j, rfl, asks_j (ov.same S9) j hj, fun t H11 S11 nt hd => ?_⟩
        refine ⟨by show 3 ≤ sizeLine; decide, fun c nc => ?_⟩
        refine ⟨_, rfl, c, _, _, .str (wj j), rfl, rfl, SqL.of upd_same, ?_, by show 3 ≤ sizeLine; decide, fun u nu => ?_⟩
        · rw [Int.zero_add]
          refine atI_nat ?_
          show (([pProg, pText, pText]).map V.str)[j]? = _
          rw [List.getElem?_map, ej]
          rfl
        have Sc := Same.new (o := .lst [.str "program", .str "text", .str "text"]) nc
        have Su := Same.new (o := .tup [.str "argument", .str (wj j), .bl true]) nu
        refine ne_told fj (hd.same (Sc.trans Su)) (SqT.of upd_same) ⟨_, rfl, iteF ?_⟩
        exact ⟨⟨_, _, _, _, _, _, _, _, _, rfl⟩, ((S9.trans S11).trans Sc).trans Su⟩
      · obtain ⟨⟨y3, y4, y5, y6, y7, y8, y9, y10, y11, rfl⟩, S9⟩ := q
        exact ⟨⟨_, _, _, _, _, _, _, _, _, _, rfl⟩, S9⟩
    obtain ⟨⟨y2, y3, y4, y5, y6, y7, y8, y9, y10, y11, rfl⟩, S7⟩ := q
    obtain ⟨fP, fT, fH1, fH0, f1, f2, f15, f9, fok⟩ := fines
    -- a text is no program
    refine ⟨0, _, .arg pProg, rfl, .prog ⟨_, .base (.str _), kP _ (by simp)⟩, fun t H8 S8 nt hd => ?_⟩
    refine ⟨by show 3 ≤ sizeLine; decide, fun u nu => ?_⟩
    refine ne_told fP (hd.same (Same.new nu)) (SqT.of upd_same) ⟨_, rfl, iteF ?_⟩
    have S8' : Same H1 (upd H8 u (.tup [.str "argument", .str "program", .bl true])) := ((S6.trans S7).trans S8).trans (Same.new nu)
    generalize upd H8 u (.tup [.str "argument", .str "program", .bl true]) = H9 at S8' ⊢
    clear nt hd nu
    -- no lists
    refine ⟨by show 0 ≤ sizeLine; decide, fun c1 m1 => ?_⟩
    have T1 : Same H9 (upd H9 c1 (.tup [])) := Same.new m1
    have g1 : upd H9 c1 (.tup []) c1 = some (.tup []) := upd_same
    generalize upd H9 c1 (.tup []) = G1 at T1 g1 ⊢
    intro c2 m2
    have T2 : Same G1 (upd G1 c2 (.dK [])) := Same.new m2
    have g2 : upd G1 c2 (.dK []) c2 = some (.dK []) := upd_same
    generalize upd G1 c2 (.dK []) = G2 at T2 g2 ⊢
    refine ⟨by show 2 ≤ sizeLine; decide, fun c3 m3 => ?_⟩
    have T3 : Same G2 (upd G2 c3 (.tup [.str "begin", .str "go"])) := Same.new m3
    generalize upd G2 c3 (.tup [.str "begin", .str "go"]) = G3 at T3 ⊢
    refine ⟨by show 1 ≤ sizeLine; decide, fun c4 m4 => ?_⟩
    have T4 : Same G3 (upd G3 c4 (.tup [.ref c3])) := Same.new m4
    have g4 : upd G3 c4 (.tup [.ref c3]) c4 = some (.tup [.ref c3]) := upd_same
    generalize upd G3 c4 (.tup [.ref c3]) = G4 at T4 g4 ⊢
    refine ⟨by show 6 ≤ sizeLine; decide, fun L2 nL2 => ?_⟩
    have T5 : Same G4 (upd G4 L2 (.lst [.non, .str "begin go", .ref c1, .ref c2, .int 5, .ref c4])) := Same.new nL2
    have hL2 : upd G4 L2 (.lst [.non, .str "begin go", .ref c1, .ref c2, .int 5, .ref c4]) L2 = some (.lst [.non, .str "begin go", .ref c1, .ref c2, .int 5, .ref c4]) := upd_same
    generalize upd G4 L2 (.lst [.non, .str "begin go", .ref c1, .ref c2, .int 5, .ref c4]) = G5 at T5 hL2 ⊢
    have odd2 : ∀ v ∈ ([.non, .str "begin go", .ref c1, .ref c2, .int 5, .ref c4] : List V), NotA K G5 v "list" := by
      have b1 := T5 _ _ (T4 _ _ (T3 _ _ (T2 _ _ g1)))
      have b2 := T5 _ _ (T4 _ _ (T3 _ _ g2))
      have b4 := T5 _ _ g4
      intro v hv
      have hv : v = .non ∨ v = .str "begin go" ∨ v = .ref c1 ∨ v = .ref c2 ∨ v = .int 5 ∨ v = .ref c4 := by simpa using hv
      rcases hv with rfl | rfl | rfl | rfl | rfl | rfl
      · exact ⟨_, .base .non, kit_ty (by decide +kernel)⟩
      · exact ⟨_, .base (.str _), kit_ty (by decide +kernel)⟩
      · exact ⟨_, .base (.tup b1), kit_ty (by decide +kernel)⟩
      · exact ⟨_, .base (.dK b2), kit_ty (by decide +kernel)⟩
      · exact ⟨_, .base (.int 5), kit_ty (by decide +kernel)⟩
      · exact ⟨_, .base (.tup b4), kit_ty (by decide +kernel)⟩
    have S10 : Same H1 G5 := S8'.trans ((((T1.trans T2).trans T3).trans T4).trans T5)
    refine ⟨L2, rfl, ⟨_, SqL.of hL2⟩, ?_⟩
    refine for_it (walk_list (K := K) (a := L2) (xs := [.non, .str "begin go", .ref c1, .ref c2, .int 5, .ref c4])) (fun i σ' H' => (∃ y2 y3 y4 y5 y6 y7 y8 y9 y10 y11, σ' = [some (.ref a), some (.ref p), y2, y3, y4, y5, y6, y7, y8, y9, y10, y11]) ∧ Same G5 H')
      ⟨⟨_, _, _, _, _, _, _, _, _, _, rfl⟩, Same.refl _⟩ (fun i σ' H' _ q => SqL.of (q.2 _ _ hL2)) (fun i v σ' H7 H8 hi q y => ?_) (fun σ' H7 q => ?_)
    · obtain ⟨⟨y2, y3, y4, y5, y6, y7, y8, y9, y10, y11, rfl⟩, S7⟩ := q
      obtain ⟨rfl, hv⟩ := y
      obtain ⟨ty, n1, n2⟩ := odd2 v (List.mem_of_getElem? hv)
      refine ⟨_, rfl, 3, v, .hist (-1), rfl, .noList ⟨ty, tyx_same S7 n1, n2⟩, fun t H11 S11 nt hd => ?_⟩
      refine ⟨_, rfl, by show 3 ≤ sizeLine; decide, fun u nu => ?_⟩
      refine ne_told fH1 (hd.same (Same.new nu)) (SqT.of upd_same) ⟨_, rfl, iteF ?_⟩
      exact ⟨⟨_, _, _, _, _, _, _, _, _, _, rfl⟩, (S7.trans S11).trans (Same.new nu)⟩
    obtain ⟨⟨y2, y3, y4, y5, y6, y7, y8, y9, y10, y11, rfl⟩, S7⟩ := q
    have S11 := S10.trans S7
    clear odd2 S7 S10
    -- the empty list, the empty text
    refine ⟨by show 0 ≤ sizeLine; decide, fun e1 me1 => ?_⟩
    have T6 : Same H7 (upd H7 e1 (.lst [])) := Same.new me1
    have g6 : upd H7 e1 (.lst []) e1 = some (.lst []) := upd_same
    generalize upd H7 e1 (.lst []) = G6 at T6 g6 ⊢
    refine ⟨3, _, .hist 0, rfl, .emptyL g6, fun t H12 S12 nt hd => ?_⟩
    refine ⟨by show 3 ≤ sizeLine; decide, fun u nu => ?_⟩
    refine ne_told fH0 (hd.same (Same.new nu)) (SqT.of upd_same) ⟨_, rfl, iteF ?_⟩
    have S13 := ((S11.trans T6).trans S12).trans (Same.new (o := .tup [.str "history", .int 0, .bl true]) nu)
    generalize upd H12 u (.tup [.str "history", .int 0, .bl true]) = H13 at S13 ⊢
    clear nt hd nu
    refine ⟨1, _, .line 1, rfl, .empty (by decide +kernel) (by decide +kernel), fun t H14 S14 nt hd => ?_⟩
    refine ⟨by show 3 ≤ sizeLine; decide, fun u nu => ?_⟩
    refine ne_told f1 (hd.same (Same.new nu)) (SqT.of upd_same) ⟨_, rfl, iteF ?_⟩
    have S15 := (S13.trans S14).trans (Same.new (o := .tup [.str "line", .int 1, .bl true]) nu)
    generalize upd H14 u (.tup [.str "line", .int 1, .bl true]) = H15 at S15 ⊢
    clear nt hd nu
    refine ⟨2, _, .line 1, rfl, .line (n := 0) (by decide +kernel) (bad_of hist_empty empty_small).1 (by decide), fun t H16 S16 nt hd => ?_⟩
    refine ⟨by show 3 ≤ sizeLine; decide, fun u nu => ?_⟩
    refine ne_told f1 (hd.same (Same.new nu)) (SqT.of upd_same) ⟨_, rfl, iteF ?_⟩
    have S17 := (S15.trans S16).trans (Same.new (o := .tup [.str "line", .int 1, .bl true]) nu)
    generalize upd H16 u (.tup [.str "line", .int 1, .bl true]) = H17 at S17 ⊢
    clear nt hd nu
    refine ⟨1, _, .line 2, rfl, .two (by decide +kernel) (by decide +kernel), fun t H18 S18 nt hd => ?_⟩
    refine ⟨by show 3 ≤ sizeLine; decide, fun u nu => ?_⟩
    refine ne_told f2 (hd.same (Same.new nu)) (SqT.of upd_same) ⟨_, rfl, iteF ?_⟩
    have S19 := (S17.trans S18).trans (Same.new (o := .tup [.str "line", .int 2, .bl true]) nu)
    generalize upd H18 u (.tup [.str "line", .int 2, .bl true]) = H19 at S19 ⊢
    clear nt hd nu
    have ha2 : SqL K H19 a (ns.map V.int) := (S1.trans S19).seq ha
    refine ⟨1, 9, rfl, ⟨by decide, by decide, by decide, by decide⟩, ?_⟩
    refine for_it (walk_range (lo := 1) (n := 8)) (fun i σ' H' => (∃ y1 y2 y3 y4 y5 y6 y7 y8 y9 y10 y11, σ' = [some (.ref a), y1, y2, y3, y4, y5, y6, y7, y8, y9, y10, y11]) ∧ SqL K H' a (ns.map V.int))
      ⟨⟨_, _, _, _, _, _, _, _, _, _, _, rfl⟩, ha2⟩ (fun _ _ _ _ _ => trivial) (fun i x σ' H20 H21 hi q y => ?_) (fun σ' H20 q => ?_)
    rotate_left
    · obtain ⟨⟨y1, y2, y3, y4, y5, y6, y7, y8, y9, y10, y11, rfl⟩, ha3⟩ := q
      refine ⟨.str "inputs go\nrows", rfl, .inr ⟨_, linesOf [], rfl, by decide +kernel, by decide +kernel, fun x hx => ?_, by decide, .inr (.inr ⟨[], nest_lines [] (fun k hk => by cases hk), rfl, rfl, fun h => absurd h (by decide), fun _ h => absurd h (by decide), fun _ x dx H21 fs S21 nx hx => ?_⟩)⟩⟩
      · rcases List.mem_cons.mp hx with rfl | hx
        · decide +kernel
        · rw [List.mem_singleton.mp hx]
          decide +kernel
      · exact ⟨.ref x, .ref (He.ga K "Program"), _, _, true, rfl, .own _, kPP _ _ _ _ hx, kPP2, kq _⟩
    obtain ⟨⟨y1, y2, y3, y4, y5, y6, y7, y8, y9, y10, y11, rfl⟩, ha3⟩ := q
    obtain ⟨rfl, rfl⟩ := y
    refine ⟨_, rfl, _, rfl, a, _, rfl, .inl ha3, _, _, rfl, rfl, _, rfl, ?_⟩
    refine ite2 (fun _ => ?_) fun _ => ⟨⟨_, _, _, _, _, _, _, _, _, _, _, rfl⟩, ha3⟩
    refine ⟨_, rfl, _, rfl, a, ns, _, rfl, ha3, by omega, ns63, fun p2 b2 s2 c2 np2 => ?_⟩
    have S22 : Same H21 (upd H21 p2 (.dK (poolK b2 s2 c2))) := Same.new np2
    have hp2 : PoolAt (upd H21 p2 (.dK (poolK b2 s2 c2))) p2 := ⟨_, _, _, upd_same⟩
    have ha4 := S22.seq ha3
    generalize upd H21 p2 (.dK (poolK b2 s2 c2)) = H22 at S22 hp2 ha4 ⊢
    refine ⟨_, rfl, ?_⟩
    dsimp only [tCons, tC, tNil, List.append_nil]
    refine draw_k (m := 30) hp2 (by omega) (by omega) fun d H23 hd A23 => ⟨_, _, rfl, rfl, ?_⟩
    have ha5 := A23.seq hp2 ha4
    have hp3 := A23.p
    refine ⟨fun σ' H' => ∃ (n : Nat) (y2 y4 y6 y7 y8 y9 y10 y11 : Option V), 1 ≤ n ∧ n ≤ 1500 ∧ σ' = [some (.ref a), some (.ref p2), y2, some (.int (1 + (i : Int))), y4, some (.int (n : Nat)), y6, y7, y8, y9, y10, y11] ∧ PoolAt H' p2 ∧ SqL K H' a (ns.map V.int), ?_, ?_⟩
    · refine ⟨_, rfl, rfl, _, rfl, ?_⟩
      have e1 : V.int (1 + (d : Int)) = V.int ((1 + d : Nat) : Int) := by rw [Int.natCast_add]; rfl
      refine ite2 (fun _ => ?_) fun _ => ?_
      · refine ⟨_, rfl, ?_⟩
        dsimp only [tCons, tC, tNil, List.append_nil]
        refine draw_k (m := 3) hp3 (by omega) (by omega) fun d2 H24 hd2 A24 => ⟨rfl, _, rfl, ?_⟩
        refine ite2 (fun _ => ?_) fun _ => ?_
        · exact ⟨1500, _, _, _, _, _, _, _, _, by decide, by decide, rfl, A24.p, A24.seq hp3 ha5⟩
        · exact ⟨1 + d, _, _, _, _, _, _, _, _, by omega, by omega, by rw [← e1]; rfl, A24.p, A24.seq hp3 ha5⟩
      · refine iteF ?_
        exact ⟨1 + d, _, _, _, _, _, _, _, _, by omega, by omega, by rw [← e1]; rfl, hp3, ha5⟩
    rintro σ' H24 ⟨n, z2, z4, z6, z7, z8, z9, z10, z11, n1, n2, rfl, hp4, ha6⟩
    refine ⟨_, rfl, _, rfl, p2, n, rfl, hp4, n1, by omega, fun t la q H25 ks A25 ht hla lk k3 hq => ?_⟩
    subst lk
    have ha7 := A25.seq hp4 ha6
    refine ⟨t, _, rfl, SqT.of ht, rfl, _, _, rfl, _, _, rfl, rfl, ?_⟩
    refine ⟨_, rfl, _, rfl, _, rfl, la, q, ks, rfl, hla, k3, by omega, fun u H26 S26 nu due => ?_⟩
    have hla2 := S26 _ _ hla
    have hq2 := sameT S26 hq
    have ha8 := S26.seq ha7
    have hp5 := A25.p.of S26
    obtain ⟨jz, je⟩ := join_lines ks k3 (by omega)
    have zz : 4 < ks.length → zeros (2 * min ks.length 4 + 1) = zeros9 := fun h => by
      rw [Nat.min_eq_right (by omega)]
      rfl
    have dd : ∃ d, Asks K H26 1 (.str (Txt.join nlS (linesOf ks))) d ∧ d.fine = true ∧ d.At K H26 u := by
      cases due with
      | line h e => exact ⟨.line 15, .deep jz je k3 (by omega) h, f15, e⟩
      | rows h h2 e => exact ⟨.rows zeros9, .bad jz je k3 h h2, f9, q, e, by rw [← zz h2]; exact hq2⟩
      | none h2 e => exact ⟨.ok, .good jz je k3 h2, fok, e⟩
    obtain ⟨dv, dask, dfine, dat⟩ := dd
    have js := linesOf_sum ks k3 (by omega)
    refine ⟨⟨_, rfl⟩, _, rfl, nlS, la, linesOf ks, rfl, rfl, .inl (SqL.of hla2), by omega, 1, _, dv, rfl, dask, fun t2 H27 S27 nt2 hd2 => ?_⟩
    refine ⟨_, rfl, ne_told dfine hd2 (dat.same S27) ⟨_, rfl, iteF ?_⟩⟩
    have ha9 := S27.seq ha8
    have hp6 := hp5.of S27
    -- a history's text spoiled
    refine ⟨_, rfl, _, rfl, histT, rfl, by decide +kernel, _, _, rfl, rfl, ?_⟩
    have e15 : ((histT.length : Nat) : Int) + 1 = ((15 : Nat) : Int) := by decide +kernel
    dsimp only [tCons, tC, tNil, List.append_nil]
    rw [e15]
    refine draw_k (m := 15) hp6 (by omega) (by omega) fun d3 H28 hd3 A28 => ?_
    have ha10 := A28.seq hp6 ha9
    have hp7 := A28.p
    refine ⟨_, rfl, by show 7 ≤ sizeLine; decide, fun c nc => ?_⟩
    refine ⟨p2, c, signs, rfl, hp7.of (Same.new nc), upd_same, by decide, by decide, fun w hw H29 A29 => ?_⟩
    have ha11 := A29.seq (hp7.of (Same.new nc)) ((Same.new (o := .lst (signs.map V.str)) nc).seq ha10)
    have hsm := hist_small d3 hd3 w hw
    obtain ⟨n3, hn3⟩ := Option.isSome_iff_exists.mp (hist_bad d3 hd3 w hw)
    obtain ⟨hb, hb2⟩ := bad_of hn3 hsm.2
    have l14 : histT.length = 14 := by decide +kernel
    have c1 := cutS_le histT none (some (d3 : Int))
    have c2 := cutS_le histT (some (d3 : Int)) none
    have wl : w.length ≤ 1 := (show ∀ w ∈ signs, w.length ≤ 1 by decide +kernel) w hw
    have app : ∀ x y : Str, (x ++ y).length = x.length + y.length := fun x y => Array.size_append
    refine ⟨_, rfl, _, rfl, d3, rfl, histT, rfl, by decide +kernel, _, rfl, _, _, rfl, rfl, by rw [sizeLine_eq]; omega, _, rfl, _, rfl, d3, rfl, histT, rfl, by decide +kernel, _, _, rfl, rfl, by rw [app, sizeLine_eq]; omega, ?_⟩
    refine ⟨2, .str (histOf d3 w), .line ((n3 + 1 : Nat) : Int), rfl, .line (by rw [sizeLine_eq]; omega) hb hb2, fun t3 H30 S30 nt3 hd3 => ?_⟩
    refine ⟨t3, _, _, .str "line", rfl, rfl, hd3, at0, rfl, _, rfl, iteF' (by decide +kernel) ?_⟩
    exact ⟨⟨_, _, _, _, _, _, _, _, _, _, _, rfl⟩, S30.seq ha11⟩
end
end OR

set_option Elab.async false
set_option linter.all false
set_option maxRecDepth 100000
set_option maxHeartbeats 0
namespace OR
open PySem PySem.Spec PyProof.Rows L2 TS2
/-! ### the head: facts by names, the run -/

abbrev sIP : Stmt := inClass (top 4) 0
def dIP : He.DefD := ⟨("InvalidProgram", some "__init__"), "__init__", "InvalidProgram.__init__", defArgs sIP, defBody sIP, defScope sIP, [], []⟩
abbrev sIH : Stmt := inClass (top 5) 0
def dIH : He.DefD := ⟨("InvalidHistory", some "__init__"), "__init__", "InvalidHistory.__init__", defArgs sIH, defBody sIH, defScope sIH, [], []⟩
abbrev sIT : Stmt := inClass (top 6) 0
def dIT : He.DefD := ⟨("InvalidText", some "__init__"), "__init__", "InvalidText.__init__", defArgs sIT, defBody sIT, defScope sIT, [], []⟩
abbrev sIA : Stmt := inClass (top 7) 0
def dIA : He.DefD := ⟨("InvalidArgument", some "__init__"), "__init__", "InvalidArgument.__init__", defArgs sIA, defBody sIA, defScope sIA, [], []⟩
def d_lists_of : He.DefD := ⟨("lists_of", none), "lists_of", "lists_of", defArgs s_lists_of, defBody s_lists_of, defScope s_lists_of, [], []⟩
def d_with_lists : He.DefD := ⟨("with_lists", none), "with_lists", "with_lists", defArgs s_with_lists, defBody s_with_lists, defScope s_with_lists, [], []⟩
def d_words_named : He.DefD := ⟨("words_named", none), "words_named", "words_named", defArgs s_words_named, defBody s_words_named, defScope s_words_named, [], []⟩
def d_copied : He.DefD := ⟨("copied", none), "copied", "copied", defArgs s_copied, defBody s_copied, defScope s_copied, [], []⟩
def d_is_word : He.DefD := ⟨("is_word", none), "is_word", "is_word", defArgs s_is_word, defBody s_is_word, defScope s_is_word, [], []⟩
def d_is_integer : He.DefD := ⟨("is_integer", none), "is_integer", "is_integer", defArgs s_is_integer, defBody s_is_integer, defScope s_is_integer, [], []⟩
def d_are_words : He.DefD := ⟨("are_words", none), "are_words", "are_words", defArgs s_are_words, defBody s_are_words, defScope s_are_words, [], []⟩
def d_RowCheck___init__ : He.DefD := ⟨("RowCheck", some "__init__"), "__init__", "RowCheck.__init__", defArgs s_RowCheck___init__, defBody s_RowCheck___init__, defScope s_RowCheck___init__, [], []⟩
def d_RowCheck_check_rows : He.DefD := ⟨("RowCheck", some "check_rows"), "check_rows", "RowCheck.check_rows", defArgs s_RowCheck_check_rows, defBody s_RowCheck_check_rows, defScope s_RowCheck_check_rows, [], []⟩
def d_RowCheck_check_list : He.DefD := ⟨("RowCheck", some "check_list"), "check_list", "RowCheck.check_list", defArgs s_RowCheck_check_list, defBody s_RowCheck_check_list, defScope s_RowCheck_check_list, [], []⟩
def d_RowCheck_has_form : He.DefD := ⟨("RowCheck", some "has_form"), "has_form", "RowCheck.has_form", defArgs s_RowCheck_has_form, defBody s_RowCheck_has_form, defScope s_RowCheck_has_form, [], []⟩
def d_RowCheck_fits : He.DefD := ⟨("RowCheck", some "fits"), "fits", "RowCheck.fits", defArgs s_RowCheck_fits, defBody s_RowCheck_fits, defScope s_RowCheck_fits, [], []⟩
def d_RowCheck_is_new : He.DefD := ⟨("RowCheck", some "is_new"), "is_new", "RowCheck.is_new", defArgs s_RowCheck_is_new, defBody s_RowCheck_is_new, defScope s_RowCheck_is_new, [], []⟩
def d_are_sides : He.DefD := ⟨("are_sides", none), "are_sides", "are_sides", defArgs s_are_sides, defBody s_are_sides, defScope s_are_sides, [], []⟩
def d_may_stand : He.DefD := ⟨("may_stand", none), "may_stand", "may_stand", defArgs s_may_stand, defBody s_may_stand, defScope s_may_stand, [], []⟩
def d_Plan___init__ : He.DefD := ⟨("Plan", some "__init__"), "__init__", "Plan.__init__", defArgs s_Plan___init__, defBody s_Plan___init__, defScope s_Plan___init__, [], []⟩
def d_Plan_lay_list : He.DefD := ⟨("Plan", some "lay_list"), "lay_list", "Plan.lay_list", defArgs s_Plan_lay_list, defBody s_Plan_lay_list, defScope s_Plan_lay_list, [], []⟩
def d_Plan_lay_row : He.DefD := ⟨("Plan", some "lay_row"), "lay_row", "Plan.lay_row", defArgs s_Plan_lay_row, defBody s_Plan_lay_row, defScope s_Plan_lay_row, [], []⟩
def d_size_of : He.DefD := ⟨("size_of", none), "size_of", "size_of", defArgs s_size_of, defBody s_size_of, defScope s_size_of, [], []⟩
def d_end_within : He.DefD := ⟨("end_within", none), "end_within", "end_within", defArgs s_end_within, defBody s_end_within, defScope s_end_within, [], []⟩
def d_Draft___init__ : He.DefD := ⟨("Draft", some "__init__"), "__init__", "Draft.__init__", defArgs s_Draft___init__, defBody s_Draft___init__, defScope s_Draft___init__, [], []⟩
def d_checked_table : He.DefD := ⟨("checked_table", none), "checked_table", "checked_table", defArgs s_checked_table, defBody s_checked_table, defScope s_checked_table, [], []⟩
def d_is_entry : He.DefD := ⟨("is_entry", none), "is_entry", "is_entry", defArgs s_is_entry, defBody s_is_entry, defScope s_is_entry, [], []⟩
def d_named_in : He.DefD := ⟨("named_in", none), "named_in", "named_in", defArgs s_named_in, defBody s_named_in, defScope s_named_in, [], []⟩
def d_check_sizes : He.DefD := ⟨("check_sizes", none), "check_sizes", "check_sizes", defArgs s_check_sizes, defBody s_check_sizes, defScope s_check_sizes, [], []⟩
def d_Program___init__ : He.DefD := ⟨("Program", some "__init__"), "__init__", "Program.__init__", defArgs s_Program___init__, defBody s_Program___init__, defScope s_Program___init__, [], []⟩
def d_cut : He.DefD := ⟨("cut", none), "cut", "cut", defArgs s_cut, defBody s_cut, defScope s_cut, [], []⟩
def d_program_text : He.DefD := ⟨("program_text", none), "program_text", "program_text", defArgs s_program_text, defBody s_program_text, defScope s_program_text, [], []⟩
def d_Source___init__ : He.DefD := ⟨("Source", some "__init__"), "__init__", "Source.__init__", defArgs s_Source___init__, defBody s_Source___init__, defScope s_Source___init__, [], []⟩
def d_Source_next_line : He.DefD := ⟨("Source", some "next_line"), "next_line", "Source.next_line", defArgs s_Source_next_line, defBody s_Source_next_line, defScope s_Source_next_line, [], []⟩
def d_Source_next_words : He.DefD := ⟨("Source", some "next_words"), "next_words", "Source.next_words", defArgs s_Source_next_words, defBody s_Source_next_words, defScope s_Source_next_words, [], []⟩
def d_Source_is_at : He.DefD := ⟨("Source", some "is_at"), "is_at", "Source.is_at", defArgs s_Source_is_at, defBody s_Source_is_at, defScope s_Source_is_at, [], []⟩
def d_Source_go_on : He.DefD := ⟨("Source", some "go_on"), "go_on", "Source.go_on", defArgs s_Source_go_on, defBody s_Source_go_on, defScope s_Source_go_on, [], []⟩
def d_read_program : He.DefD := ⟨("read_program", none), "read_program", "read_program", defArgs s_read_program, defBody s_read_program, defScope s_read_program, [], []⟩
def d_are_some : He.DefD := ⟨("are_some", none), "are_some", "are_some", defArgs s_are_some, defBody s_are_some, defScope s_are_some, [], []⟩
def d_read_table : He.DefD := ⟨("read_table", none), "read_table", "read_table", defArgs s_read_table, defBody s_read_table, defScope s_read_table, [], []⟩
def d_read_list : He.DefD := ⟨("read_list", none), "read_list", "read_list", defArgs s_read_list, defBody s_read_list, defScope s_read_list, [], []⟩
def d_parts_of : He.DefD := ⟨("parts_of", none), "parts_of", "parts_of", defArgs s_parts_of, defBody s_parts_of, defScope s_parts_of, [], []⟩
def d_read_inner : He.DefD := ⟨("read_inner", none), "read_inner", "read_inner", defArgs s_read_inner, defBody s_read_inner, defScope s_read_inner, [], []⟩
def d_history_text : He.DefD := ⟨("history_text", none), "history_text", "history_text", defArgs s_history_text, defBody s_history_text, defScope s_history_text, [], []⟩
def d_read_history : He.DefD := ⟨("read_history", none), "read_history", "read_history", defArgs s_read_history, defBody s_read_history, defScope s_read_history, [], []⟩
def d_token_of : He.DefD := ⟨("token_of", none), "token_of", "token_of", defArgs s_token_of, defBody s_token_of, defScope s_token_of, [], []⟩
def d_fits_word : He.DefD := ⟨("fits_word", none), "fits_word", "fits_word", defArgs s_fits_word, defBody s_fits_word, defScope s_fits_word, [], []⟩
def d__law_pool : He.DefD := ⟨("_law_pool", none), "_law_pool", "_law_pool", defArgs s__law_pool, defBody s__law_pool, defScope s__law_pool, [], []⟩
def d__law_draw : He.DefD := ⟨("_law_draw", none), "_law_draw", "_law_draw", defArgs s__law_draw, defBody s__law_draw, defScope s__law_draw, [], []⟩
def d__law_item : He.DefD := ⟨("_law_item", none), "_law_item", "_law_item", defArgs s__law_item, defBody s__law_item, defScope s__law_item, [], []⟩
def d__law_call : He.DefD := ⟨("_law_call", none), "_law_call", "_law_call", defArgs s__law_call, defBody s__law_call, defScope s__law_call, [], []⟩
def d__law_nested : He.DefD := ⟨("_law_nested", none), "_law_nested", "_law_nested", defArgs s__law_nested, defBody s__law_nested, defScope s__law_nested, [], []⟩
def d__law_nested_due : He.DefD := ⟨("_law_nested_due", none), "_law_nested_due", "_law_nested_due", defArgs s__law_nested_due, defBody s__law_nested_due, defScope s__law_nested_due, [], []⟩
def d_law : He.DefD := ⟨("law", none), "law", "law", defArgs s_law, defBody s_law, defScope s_law, [], []⟩
def fn : List He.DefD := ([dIP, dIH, dIT, dIA, d_lists_of, d_with_lists, d_words_named, d_copied, d_is_word, d_is_integer, d_are_words, d_RowCheck___init__, d_RowCheck_check_rows, d_RowCheck_check_list, d_RowCheck_has_form, d_RowCheck_fits, d_RowCheck_is_new, d_are_sides, d_may_stand, d_Plan___init__] : List He.DefD) ++ ([d_Plan_lay_list, d_Plan_lay_row, d_size_of, d_end_within, d_Draft___init__, d_checked_table, d_is_entry, d_named_in, d_check_sizes, d_Program___init__, d_cut, d_program_text, d_Source___init__, d_Source_next_line, d_Source_next_words, d_Source_is_at, d_Source_go_on, d_read_program, d_are_some, d_read_table] : List He.DefD) ++ ([d_read_list, d_parts_of, d_read_inner, d_history_text, d_read_history, d_token_of, d_fits_word, d__law_pool, d__law_draw, d__law_item, d__law_call, d__law_nested, d__law_nested_due, d_law] : List He.DefD)
def fa : List He.Fa := ([.glo "InvalidProgram", .glo "InvalidHistory", .glo "InvalidText", .glo "InvalidArgument", .glo "RunError", .glo "InputError", .glo "Program", .glo "Draft", .glo "RowCheck", .glo "Plan", .glo "Source", .glo "FORMS", .glo "OUTER_FORMS", .glo "COMMAND_FORMS", .glo "DIVIDERS", .glo "INNER", .glo "SEVERAL", .glo "lists_of", .glo "with_lists", .glo "words_named"] : List He.Fa) ++ ([.glo "copied", .glo "is_word", .glo "is_integer", .glo "are_words", .glo "are_sides", .glo "may_stand", .glo "size_of", .glo "end_within", .glo "checked_table", .glo "is_entry", .glo "named_in", .glo "check_sizes", .glo "cut", .glo "program_text", .glo "read_program", .glo "are_some", .glo "read_table", .glo "read_list", .glo "parts_of", .glo "read_inner"] : List He.Fa) ++ ([.glo "history_text", .glo "read_history", .glo "token_of", .glo "fits_word", .glo "_law_pool", .glo "_law_draw", .glo "_law_item", .glo "_law_call", .glo "_law_nested", .glo "_law_nested_due", .glo "law", .free "isinstance", .free "str", .free "int", .free "bool", .free "tuple", .free "list", .free "dict", .free "len", .free "all"] : List He.Fa) ++ ([.free "zip", .free "enumerate", .free "range", .free "sorted", .free "set", .free "sum", .noat "InvalidProgram" "part", .noat "InvalidProgram" "path", .noat "InvalidHistory" "at", .noat "InvalidText" "line", .noat "InvalidArgument" "part", .int "DEEPEST_LEVEL" (12), .int "LONGEST_NUMBER" (5), .int "THROUGH" (-1), .int "FINISH" (-2), .int "MOST_ASKS" (6), .int "MOST_ANSWERS" (4), .int "MOST_SIGNALS" (3), .int "MOST_ROOM" (3), .int "MOST_SIGNAL_WORDS" (3)] : List He.Fa) ++ ([.int "MOST_INPUTS" (3), .int "MOST_ROWS" (60), .int "MOST_LABELS" (6), .int "MOST_SLOTS" (4), .int "MOST_GATES" (8), .int "DEEPEST" (5), .int "MOST_IN_ROW" (3), .int "LONGEST_WORD" (8), .str "STEP" "  ", .str "DIGITS" "0123456789", .str "EDIT" "edit", .str "INPUT_SLOT" "in", .cls "Source", .mkr "Source", .noat "Source" "lines", .noat "Source" "lines_read", .cls "RowCheck", .mkr "RowCheck", .noat "RowCheck" "ask_table", .noat "RowCheck" "signal_table"] : List He.Fa) ++ ([.noat "RowCheck" "with_edits", .noat "RowCheck" "seen_edits", .noat "RowCheck" "seen_gates", .cls "Plan", .mkr "Plan", .noat "Plan" "flat", .noat "Plan" "places", .noat "Plan" "behind", .noat "Plan" "entries", .noat "Plan" "sides", .noat "Plan" "starts", .noat "Plan" "numbers", .cls "Program", .mkr "Program", .noat "Program" "ask_table", .noat "Program" "signal_table", .noat "Program" "input_words", .noat "Program" "row_list", .noat "Program" "plan", .noat "Program" "name_table"] : List He.Fa) ++ ([.meth "RowCheck" "check_rows", .meth "RowCheck" "check_list", .meth "RowCheck" "has_form", .meth "RowCheck" "fits", .meth "RowCheck" "is_new", .meth "Plan" "lay_list", .meth "Plan" "lay_row", .meth "Source" "next_line", .meth "Source" "next_words", .meth "Source" "is_at", .meth "Source" "go_on"] : List He.Fa)
def ts : List He.Tab := [(fun K => He.ga K "FORMS", ["ask", "timer", "await", "first", "drop", "take", "note", "put", "if", "loop", "leave", "part", "both", "gate", "past", "edit", "end", "anew"]), (fun K => He.ga K "OUTER_FORMS", ["begin", "answer", "rang", "signal"]), (fun K => He.ga K "COMMAND_FORMS", ["asked", "set", "dropped", "noted", "marked", "ended", "anew"])]
def tupV (K : PySem.W.Frag) (v : Value) (vs : List V) : Bool := match v with
  | .ref p => match K.lookup p with
    | some ⟨.type c, _, .seq its _, _⟩ => decide (c = "tuple") && (decide (its.size ≤ sizeLine) && He.relAll vs its.toList)
    | _ => false
  | _ => false
theorem tupV_ok {K : PySem.W.Frag} {v : Value} {vs : List V} (h : tupV K v vs = true) : ∃ p, v = .ref p ∧ ∀ H, SqT K H p vs := by
  unfold tupV at h
  cases v with
  | ref p =>
    refine ⟨p, rfl, fun H => ?_⟩
    cases q : K.lookup p with
    | none =>
      simp only [q] at h
      cases h
    | some o =>
      obtain ⟨oc, od, dt, osl⟩ := o
      simp only [q] at h
      cases oc with
      | type c =>
        cases dt with
        | seq its n =>
          obtain ⟨h1, h2⟩ := He.ba (show (decide (c = "tuple") && (decide (its.size ≤ sizeLine) && He.relAll vs its.toList)) = true from h)
          obtain ⟨h3, h4⟩ := He.ba h2
          exact .inr ⟨_, its, n, q, congrArg Value.type (of_decide_eq_true h1), rfl, of_decide_eq_true h3, He.relAll_ok h4⟩
        | _ => cases h
      | _ => cases dt <;> cases h
  | _ => cases h
def hasT (K : PySem.W.Frag) (d : Addr) (q : Str × List V) : Bool := match PySem.W.nsIn K d q.1 with
  | some (some v) => tupV K v q.2
  | _ => false
theorem hasT_ok {K : PySem.W.Frag} {d : Addr} {x : Str} {vs : List V} (h : hasT K d (x, vs) = true) : ∃ p, PySem.W.nsIn K d x = some (some (.ref p)) ∧ ∀ H, SqT K H p vs := by
  unfold hasT at h
  split at h
  · rename_i v e
    obtain ⟨p, rfl, q⟩ := tupV_ok h
    exact ⟨p, e, q⟩
  · cases h
def hasS (K : PySem.W.Frag) (d : Addr) (q : Str × Str) : Bool := match PySem.W.nsIn K d q.1 with
  | some (some (.str y _)) => decide (y = q.2)
  | _ => false
theorem hasS_ok {K : PySem.W.Frag} {d : Addr} {x z : Str} (h : hasS K d (x, z) = true) : ∃ u, PySem.W.nsIn K d x = some (some u) ∧ RelV (.str z) u := by
  unfold hasS at h
  split at h
  · rename_i y t e
    have := of_decide_eq_true h
    subst this
    exact ⟨_, e, ⟨_, rfl⟩⟩
  · cases h
def noK (K : PySem.W.Frag) (d : Addr) (x : Str) : Bool := He.eqO (PySem.W.nsIn K d x) (some none)

def xcB (K : PySem.W.Frag) (D : Addr) : Bool := He.eqO (PySem.W.findIn K (.ref D) "__class__") (some (some (.builtin "object.__class__"))) && (He.eqO (PySem.W.specialIn K (.builtin "object.__class__") "__get__") (some (some (.builtin "getset_descriptor.__get__"))) && (decide (PySem.W.takesIn K (.builtin "object.__class__") = some true) && decide (PySem.W.mroIn K D (.type "object") = some true)))
structure XcF (K : PySem.W.Frag) (D : Addr) : Prop where
  ha : PySem.W.findIn K (.ref D) "__class__" = some (some (.builtin "object.__class__"))
  hn : PySem.W.specialIn K (.builtin "object.__class__") "__get__" = some (some (.builtin "getset_descriptor.__get__"))
  ht : PySem.W.takesIn K (.builtin "object.__class__") = some true
  hm : PySem.W.mroIn K D (.type "object") = some true
theorem xcB_ok {K : PySem.W.Frag} {D : Addr} (h : xcB K D = true) : XcF K D := by
  obtain ⟨h1, h⟩ := He.ba h
  obtain ⟨h2, h⟩ := He.ba h
  obtain ⟨h3, h4⟩ := He.ba h
  exact ⟨He.eqO_ok h1, He.eqO_ok h2, of_decide_eq_true h3, of_decide_eq_true h4⟩
abbrev cDr (K : PySem.W.Frag) : Addr := He.ga K "Draft"
abbrev cFo (K : PySem.W.Frag) : Addr := He.ga K "FORMS"
/-- a keyword's default that is told -/
def kwB (K : PySem.W.Frag) (C : Str) : Bool := match K.lookup (He.fAd K (C, some "__init__")) with
  | some ⟨_, _, .func fd, _⟩ => (match fd.kwdefaults with
    | .ref D => He.eqO (PySem.W.nsIn K D "asks") (some (some .none))
    | _ => false)
  | _ => false
def drB (K : PySem.W.Frag) : Bool := PySem.W.readsIn K (cDr K) (.type "type") && (He.eqO (PySem.W.specialIn K (.ref (cDr K)) "__getattribute__") (some (some (.builtin "type.__getattribute__"))) &&
  (match PySem.W.findCls K (.ref (cDr K)) (.type "type") "__init__" with
    | some (.val v) => decide (v = .ref (He.fAd K ("Draft", some "__init__")))
    | _ => false))
theorem drB_ok {K : PySem.W.Frag} (h : drB K = true) : ClX.CRead K (cDr K) (.type "type") ∧ PySem.W.findCls K (.ref (cDr K)) (.type "type") "__init__" = some (.val (.ref (He.fAd K ("Draft", some "__init__")))) := by
  obtain ⟨h1, h⟩ := He.ba h
  obtain ⟨h2, h3⟩ := He.ba h
  refine ⟨⟨h1, He.eqO_ok h2⟩, ?_⟩
  split at h3
  · rename_i v e
    rw [e, of_decide_eq_true h3]
  · cases h3
abbrev cOu (K : PySem.W.Frag) : Addr := He.ga K "OUTER_FORMS"
abbrev cCo (K : PySem.W.Frag) : Addr := He.ga K "COMMAND_FORMS"
def prs : List String := ["NoneType", "list", "str", "int", "bool", "dict", "tuple"]
def ex0 (K : PySem.W.Frag) : Bool := (ftab.all (fun e => hasT K (cFo K) (e.1, e.2.map V.str))) && ((otab.all (fun e => hasT K (cOu K) (e.1, e.2.map V.str))) && ((otabN.all (noK K (cOu K))) && ((ctabN.all (noK K (cCo K))) && ((tupV K (.ref (He.ga K "INNER")) [.str "rows", .str "sides"]) && ((tupV K (.ref (He.ga K "SEVERAL")) [.str "labels", .str "words"]) && ((He.errB K (cIP K)) && ((He.iniB K (cIP K)) && ((xfB K (cIP K)) && (xcB K (cIP K))))))))))
def ex1 (K : PySem.W.Frag) : Bool := (He.errB K (cIH K)) && ((He.iniB K (cIH K)) && ((xfB K (cIH K)) && ((xcB K (cIH K)) && ((He.errB K (cIT K)) && ((He.iniB K (cIT K)) && ((xfB K (cIT K)) && ((xcB K (cIT K)) && ((He.errB K (cIA K)) && (He.iniB K (cIA K))))))))))
def ex2 (K : PySem.W.Frag) : Bool := (xfB K (cIA K)) && ((xcB K (cIA K)) && ((xcB K (He.ga K "Program")) && ((prs.all (fun t => decide (PySem.W.kitOne K (.type t) (.ref (He.ga K "Program")) = some false))) && ((decide (PySem.W.exmOne K (.ref (cIA K)) (.ref (cIA K)) = some true)) && ((decide (PySem.W.exmOne K (.ref (cIH K)) (.ref (cIA K)) = some false)) && ((decide (PySem.W.exmOne K (.ref (cIH K)) (.ref (cIH K)) = some true)) && ((decide (PySem.W.exmOne K (.ref (cIT K)) (.ref (cIA K)) = some false)) && ((decide (PySem.W.exmOne K (.ref (cIT K)) (.ref (cIH K)) = some false)) && (decide (PySem.W.exmOne K (.ref (cIT K)) (.ref (cIT K)) = some true))))))))))
def ex3 (K : PySem.W.Frag) : Bool := (decide (PySem.W.exmOne K (.ref (cIP K)) (.ref (cIA K)) = some false)) && ((decide (PySem.W.exmOne K (.ref (cIP K)) (.ref (cIH K)) = some false)) && ((decide (PySem.W.exmOne K (.ref (cIP K)) (.ref (cIT K)) = some false)) && ((decide (PySem.W.exmOne K (.ref (cIP K)) (.ref (cIP K)) = some true)) && ((decide (PySem.W.kitOne K (.ref (cIA K)) (.ref (cRE K)) = some false)) && ((decide (PySem.W.kitOne K (.ref (cIA K)) (.ref (cIT K)) = some false)) && ((decide (PySem.W.kitOne K (.ref (cIH K)) (.ref (cIE K)) = some true)) && ((decide (PySem.W.kitOne K (.ref (cIH K)) (.ref (cIT K)) = some false)) && ((decide (PySem.W.kitOne K (.ref (cIT K)) (.ref (cIE K)) = some true)) && (decide (PySem.W.kitOne K (.ref (cIT K)) (.ref (cRE K)) = some false))))))))))
def ex4 (K : PySem.W.Frag) : Bool := (decide (PySem.W.kitOne K (.ref (cIP K)) (.ref (cIE K)) = some true)) && ((drB K) && (kwB K "Program"))
def ex (K : PySem.W.Frag) : Bool := (ex0 K) && ((ex1 K) && ((ex2 K) && ((ex3 K) && (ex4 K))))
structure ExF (K : PySem.W.Frag) : Prop where
  forms : ∀ e ∈ ftab, ∃ p, PySem.W.nsIn K (cFo K) e.1 = some (some (.ref p)) ∧ ∀ H, SqT K H p (e.2.map V.str)
  outer : ∀ e ∈ otab, ∃ p, PySem.W.nsIn K (cOu K) e.1 = some (some (.ref p)) ∧ ∀ H, SqT K H p (e.2.map V.str)
  outN : ∀ z ∈ otabN, PySem.W.nsIn K (cOu K) z = some none
  cmdN : ∀ z ∈ ctabN, PySem.W.nsIn K (cCo K) z = some none
  inner : ∃ p, Value.ref (He.ga K "INNER") = .ref p ∧ ∀ H, SqT K H p [.str "rows", .str "sides"]
  several : ∃ p, Value.ref (He.ga K "SEVERAL") = .ref p ∧ ∀ H, SqT K H p [.str "labels", .str "words"]
  errIP : ErrC K (cIP K)
  iniIP : He.iniB K (cIP K) = true
  xfIP : XfC K (cIP K)
  xcIP : XcF K (cIP K)
  errIH : ErrC K (cIH K)
  iniIH : He.iniB K (cIH K) = true
  xfIH : XfC K (cIH K)
  xcIH : XcF K (cIH K)
  errIT : ErrC K (cIT K)
  iniIT : He.iniB K (cIT K) = true
  xfIT : XfC K (cIT K)
  xcIT : XcF K (cIT K)
  errIA : ErrC K (cIA K)
  iniIA : He.iniB K (cIA K) = true
  xfIA : XfC K (cIA K)
  xcIA : XcF K (cIA K)
  xcPr : XcF K (He.ga K "Program")
  kP : ∀ t ∈ prs, PySem.W.kitOne K (.type t) (.ref (He.ga K "Program")) = some false
  eAA : PySem.W.exmOne K (.ref (cIA K)) (.ref (cIA K)) = some true
  eHA : PySem.W.exmOne K (.ref (cIH K)) (.ref (cIA K)) = some false
  eHH : PySem.W.exmOne K (.ref (cIH K)) (.ref (cIH K)) = some true
  eTA : PySem.W.exmOne K (.ref (cIT K)) (.ref (cIA K)) = some false
  eTH : PySem.W.exmOne K (.ref (cIT K)) (.ref (cIH K)) = some false
  eTT : PySem.W.exmOne K (.ref (cIT K)) (.ref (cIT K)) = some true
  ePA : PySem.W.exmOne K (.ref (cIP K)) (.ref (cIA K)) = some false
  ePH : PySem.W.exmOne K (.ref (cIP K)) (.ref (cIH K)) = some false
  ePT : PySem.W.exmOne K (.ref (cIP K)) (.ref (cIT K)) = some false
  ePP : PySem.W.exmOne K (.ref (cIP K)) (.ref (cIP K)) = some true
  kAR : PySem.W.kitOne K (.ref (cIA K)) (.ref (cRE K)) = some false
  kAT : PySem.W.kitOne K (.ref (cIA K)) (.ref (cIT K)) = some false
  kHI : PySem.W.kitOne K (.ref (cIH K)) (.ref (cIE K)) = some true
  kHT : PySem.W.kitOne K (.ref (cIH K)) (.ref (cIT K)) = some false
  kTI : PySem.W.kitOne K (.ref (cIT K)) (.ref (cIE K)) = some true
  kTR : PySem.W.kitOne K (.ref (cIT K)) (.ref (cRE K)) = some false
  kPI : PySem.W.kitOne K (.ref (cIP K)) (.ref (cIE K)) = some true
  dr : drB K = true
  kPr : kwB K "Program" = true
theorem ex_ok {K : PySem.W.Frag} (h : ex K = true) : ExF K := by
  obtain ⟨g0, h⟩ := He.ba h
  obtain ⟨g1, h⟩ := He.ba h
  obtain ⟨g2, h⟩ := He.ba h
  obtain ⟨g3, h⟩ := He.ba h
  have g4 := h
  obtain ⟨h0, g0⟩ := He.ba g0
  obtain ⟨h1, g0⟩ := He.ba g0
  obtain ⟨h2, g0⟩ := He.ba g0
  obtain ⟨h3, g0⟩ := He.ba g0
  obtain ⟨h4, g0⟩ := He.ba g0
  obtain ⟨h5, g0⟩ := He.ba g0
  obtain ⟨h6, g0⟩ := He.ba g0
  obtain ⟨h7, g0⟩ := He.ba g0
  obtain ⟨h8, g0⟩ := He.ba g0
  have h9 := g0
  obtain ⟨h10, g1⟩ := He.ba g1
  obtain ⟨h11, g1⟩ := He.ba g1
  obtain ⟨h12, g1⟩ := He.ba g1
  obtain ⟨h13, g1⟩ := He.ba g1
  obtain ⟨h14, g1⟩ := He.ba g1
  obtain ⟨h15, g1⟩ := He.ba g1
  obtain ⟨h16, g1⟩ := He.ba g1
  obtain ⟨h17, g1⟩ := He.ba g1
  obtain ⟨h18, g1⟩ := He.ba g1
  have h19 := g1
  obtain ⟨h20, g2⟩ := He.ba g2
  obtain ⟨h21, g2⟩ := He.ba g2
  obtain ⟨h22, g2⟩ := He.ba g2
  obtain ⟨h23, g2⟩ := He.ba g2
  obtain ⟨h24, g2⟩ := He.ba g2
  obtain ⟨h25, g2⟩ := He.ba g2
  obtain ⟨h26, g2⟩ := He.ba g2
  obtain ⟨h27, g2⟩ := He.ba g2
  obtain ⟨h28, g2⟩ := He.ba g2
  have h29 := g2
  obtain ⟨h30, g3⟩ := He.ba g3
  obtain ⟨h31, g3⟩ := He.ba g3
  obtain ⟨h32, g3⟩ := He.ba g3
  obtain ⟨h33, g3⟩ := He.ba g3
  obtain ⟨h34, g3⟩ := He.ba g3
  obtain ⟨h35, g3⟩ := He.ba g3
  obtain ⟨h36, g3⟩ := He.ba g3
  obtain ⟨h37, g3⟩ := He.ba g3
  obtain ⟨h38, g3⟩ := He.ba g3
  have h39 := g3
  obtain ⟨h40, g4⟩ := He.ba g4
  obtain ⟨h41, g4⟩ := He.ba g4
  have h42 := g4
  exact ⟨fun e he => hasT_ok (List.all_eq_true.mp h0 e he), fun e he => hasT_ok (List.all_eq_true.mp h1 e he), fun z hz => He.eqO_ok (List.all_eq_true.mp h2 z hz), fun z hz => He.eqO_ok (List.all_eq_true.mp h3 z hz), tupV_ok h4, tupV_ok h5, He.errB_ok h6, h7, xfB_ok h8, xcB_ok h9, He.errB_ok h10, h11, xfB_ok h12, xcB_ok h13, He.errB_ok h14, h15, xfB_ok h16, xcB_ok h17, He.errB_ok h18, h19, xfB_ok h20, xcB_ok h21, xcB_ok h22, fun t ht => of_decide_eq_true (List.all_eq_true.mp h23 t ht), of_decide_eq_true h24, of_decide_eq_true h25, of_decide_eq_true h26, of_decide_eq_true h27, of_decide_eq_true h28, of_decide_eq_true h29, of_decide_eq_true h30, of_decide_eq_true h31, of_decide_eq_true h32, of_decide_eq_true h33, of_decide_eq_true h34, of_decide_eq_true h35, of_decide_eq_true h36, of_decide_eq_true h37, of_decide_eq_true h38, of_decide_eq_true h39, of_decide_eq_true h40, h41, h42⟩

abbrev Row0 : PySem.W.OpenRow := PySem.W.OpenLaw.row PySem.Challenge.rw_openruns_k24_text_arguments
/-- the places of the heap that the facts read (found by dropping places, natively: Ev24.lean) -/
def asZ : List Addr := ([3, 31, 44, 63, 82, 101, 120, 132, 135, 161, 168, 175, 180, 185, 192, 197, 247, 256, 263, 292] : List Addr) ++ ([301, 308, 325, 336, 343, 348, 355, 456, 459, 464, 515, 516, 517, 523, 589, 600, 605, 612, 619, 624] : List Addr) ++ ([629, 648, 660, 665, 670, 677, 684, 691, 698, 705, 712, 719, 30, 43, 62, 81, 100, 119, 136, 137] : List Addr) ++ ([138, 139, 140, 141, 142, 143, 144, 145, 146, 147, 148, 149, 150, 151, 152, 154, 160, 167, 174, 179] : List Addr) ++ ([184, 191, 196, 246, 255, 262, 291, 300, 307, 324, 335, 342, 347, 354, 455, 460, 514, 522, 588, 599] : List Addr) ++ ([604, 611, 618, 623, 628, 647, 659, 664, 669, 676, 683, 690, 697, 704, 711, 718, 60, 79, 98, 117] : List Addr) ++ ([211, 218, 225, 230, 237, 244, 275, 282, 289, 322, 371, 558, 565, 572, 579, 586, 59, 78, 97, 116] : List Addr) ++ ([210, 217, 224, 229, 236, 243, 274, 281, 288, 321, 370, 364, 557, 564, 571, 578, 585, 2] : List Addr)
def frZ (g : Addr → Option Obj) : PySem.W.Frag := He.frT g asZ
section
variable (fa : List He.Fa) (fn : List He.DefD) (ts : List He.Tab) (ex : PySem.W.Frag → Bool)
def obsZ (g : Addr → Option Obj) : He.AlX := (He.obsT fa fn ts (frZ g), ex (frZ g))
structure SaysZ (w : World) (K : PySem.W.Frag) : Prop where
  t : He.SaysT fa fn ts w K
  more : ex K = true
theorem saysZ_of {w : World} {h : Heap} (e : obsZ fa fn ts ex h.get? = He.valX fn ts w) : SaysZ fa fn ts ex w (frZ h.get?) := by
  have e1 : He.obsT fa fn ts (frZ h.get?) = He.valT fn ts w := congrArg (fun z : He.AlX => z.1) e
  have e2 : ex (frZ h.get?) = true := congrArg (fun z : He.AlX => z.2) e
  exact ⟨e1, e2⟩
def hookZ : PySem.W.Hook where
  α := He.AlX
  obs := fun s => obsZ fa fn ts ex s.heap.get?
  val := fun w => He.valX fn ts w
  says := fun w h => ∃ K : PySem.W.Frag, K.In h ∧ SaysZ fa fn ts ex w K
  of := fun _ _ e => ⟨_, He.frT_in, saysZ_of fa fn ts ex e⟩
  keeps := fun _ _ _ ⟨K, hK, c⟩ k => ⟨K, PySem.W.Frag.In.keeps hK k, c⟩
theorem obsZ_eq {g : Addr → Option Obj} {s : Shared} (h : ∀ a, g a = s.heap.get? a) : obsZ fa fn ts ex g = (hookZ fa fn ts ex).obs s := by
  have e : g = s.heap.get? := funext h
  rw [e] <;> rfl
end
abbrev hk : PySem.W.Hook := hookZ fa fn ts ex
def ob (s : PySem.W.SharedT) : He.AlX := obsZ fa fn ts ex (HandSHeadRun.getT s)
theorem ob_eq (s : PySem.W.SharedT) : ob s = hk.obs s.abs := obsZ_eq fa fn ts ex (HandSHeadRun.getT_eq s)

def loose : List Str := (["_wall", "OpenError", "InputError", "InvalidProgram", "InvalidHistory", "InvalidText", "InvalidArgument", "RunError", "FORMS", "EDIT", "INPUT_SLOT", "lists_of", "with_lists", "words_named", "copied", "LONGEST_WORD", "is_word", "is_integer", "are_words", "DEEPEST"] : List Str) ++ (["MOST_IN_ROW", "RowCheck", "are_sides", "may_stand", "THROUGH", "FINISH", "Plan", "size_of", "end_within", "MOST_ASKS", "MOST_ANSWERS", "MOST_SIGNALS", "MOST_ROOM", "MOST_SIGNAL_WORDS", "MOST_INPUTS", "MOST_ROWS", "MOST_LABELS", "MOST_SLOTS", "MOST_GATES", "Draft"] : List Str) ++ (["checked_table", "is_entry", "named_in", "check_sizes", "Program", "OUTER_FORMS", "COMMAND_FORMS", "STARTED", "NAMED", "LAST_WORDS", "gone_over", "turns_in", "is_outer", "has_form", "fits", "cut", "STEP", "DEEPEST_LEVEL", "DIGITS", "LONGEST_NUMBER"] : List Str) ++ (["SEVERAL", "INNER", "DIVIDERS", "program_text", "lines_of", "words_in", "inner_lines", "Source", "read_program", "are_some", "read_table", "read_list", "parts_of", "read_inner", "read_sides", "is_digit", "history_text", "token_line", "read_history", "token_of"] : List Str) ++ (["fits_word", "_law_pool", "_law_draw", "_law_item", "_law_call", "_law_nested", "_law_nested_due"] : List Str)
end OR

set_option Elab.async false
set_option linter.all false
set_option maxRecDepth 100000
set_option maxHeartbeats 0
namespace OR
open PySem PySem.Spec PyProof.Rows L2 TS2
theorem run_of {α β γ δ : Type} {o : Option α} {A : α → β} {B : α → γ} {C : α → δ} {a : β} {b : γ} {c : δ} (h1 : o.map A = some a) (h2 : o.map B = some b) (h3 : o.map C = some c) : o.map (fun s => (A s, B s, C s)) = some (a, b, c) := by
  cases o with
  | none => cases h1
  | some s =>
    cases h1
    cases h2
    cases h3
    rfl
theorem no_A (w : World) (os : OsState) : (HandSHeadRun.endF (HandSHeadRun.stepQ (HandSHeadRun.denQ HandSHeadRun.tabQ) Row0.prog (w.withFollow "special-get-raises" false)) 12000 Row0.prog (w.withFollow "special-get-raises" false) os).map (fun s => HandSHeadRun.looksF Row0.prog (PySem.W.boot_heap (w.withFollow "special-get-raises" false).params) s.abs) = some true := by
  kernel_rfl
theorem no_B (w : World) (os : OsState) : (HandSHeadRun.endF (HandSHeadRun.stepQ (HandSHeadRun.denQ HandSHeadRun.tabQ) Row0.prog (w.withFollow "special-get-raises" false)) 12000 Row0.prog (w.withFollow "special-get-raises" false) os).map (fun s => HandSHeadRun.seenQ (PySem.W.view Row0.prog [98]) loose (PySem.importedModules Row0.prog.main.body) (fun s => PySem.W.xlAt (PySem.W.view Row0.prog [98]) [] s && PySem.W.recOk Row0.toRowW.records s) s.abs) = some (PySem.W.openGood (PySem.W.view Row0.prog [98]) loose) := by
  kernel_rfl
theorem no_C (w : World) (os : OsState) : (HandSHeadRun.endF (HandSHeadRun.stepQ (HandSHeadRun.denQ HandSHeadRun.tabQ) Row0.prog (w.withFollow "special-get-raises" false)) 12000 Row0.prog (w.withFollow "special-get-raises" false) os).map (fun s => ob s) = some (hk.val (w.withFollow "special-get-raises" false)) := by
  kernel_rfl
theorem run_no (w : World) : HandSHeadRun.RunEq Row0 (PySem.W.view Row0.prog [98]) hk ob 12000 loose (w.withFollow "special-get-raises" false) := fun os => run_of (no_A w os) (no_B w os) (no_C w os)
theorem yes_A (w : World) (os : OsState) : (HandSHeadRun.endF (HandSHeadRun.stepQ (HandSHeadRun.denQ HandSHeadRun.tabQ) Row0.prog (w.withFollow "special-get-raises" true)) 12000 Row0.prog (w.withFollow "special-get-raises" true) os).map (fun s => HandSHeadRun.looksF Row0.prog (PySem.W.boot_heap (w.withFollow "special-get-raises" true).params) s.abs) = some true := by
  kernel_rfl
theorem yes_B (w : World) (os : OsState) : (HandSHeadRun.endF (HandSHeadRun.stepQ (HandSHeadRun.denQ HandSHeadRun.tabQ) Row0.prog (w.withFollow "special-get-raises" true)) 12000 Row0.prog (w.withFollow "special-get-raises" true) os).map (fun s => HandSHeadRun.seenQ (PySem.W.view Row0.prog [98]) loose (PySem.importedModules Row0.prog.main.body) (fun s => PySem.W.xlAt (PySem.W.view Row0.prog [98]) [] s && PySem.W.recOk Row0.toRowW.records s) s.abs) = some (PySem.W.openGood (PySem.W.view Row0.prog [98]) loose) := by
  kernel_rfl
theorem yes_C (w : World) (os : OsState) : (HandSHeadRun.endF (HandSHeadRun.stepQ (HandSHeadRun.denQ HandSHeadRun.tabQ) Row0.prog (w.withFollow "special-get-raises" true)) 12000 Row0.prog (w.withFollow "special-get-raises" true) os).map (fun s => ob s) = some (hk.val (w.withFollow "special-get-raises" true)) := by
  kernel_rfl
theorem run_yes (w : World) : HandSHeadRun.RunEq Row0 (PySem.W.view Row0.prog [98]) hk ob 12000 loose (w.withFollow "special-get-raises" true) := fun os => run_of (yes_A w os) (yes_B w os) (yes_C w os)
theorem run (w : World) : HandSHeadRun.RunEq Row0 (PySem.W.view Row0.prog [98]) hk ob 12000 loose w := PySem.W.byRow2 "special-get-raises" (P := fun w => HandSHeadRun.RunEq Row0 (PySem.W.view Row0.prog [98]) hk ob 12000 loose w) run_no run_yes w
end OR

set_option Elab.async false
set_option linter.all false
set_option maxRecDepth 100000
set_option maxHeartbeats 0
namespace OR
open PySem PySem.Spec PyProof.Rows L2 TS2
section
variable {P : Program} {w : World} {K : PySem.W.Frag} {h base : Heap} {mg : Str → Option Value}
theorem names (X : K.In h) (G : h.Ns mainGlobals mg) (e : ExF K) (c0 : He.SaysT fa fn ts w K) : Tx w K mg :=
  have c := c0.d
  { b_isinstance := He.free_ok X G (c.fact 51 (f := .free "isinstance") rfl)
    b_str := He.free_ok X G (c.fact 52 (f := .free "str") rfl)
    b_int := He.free_ok X G (c.fact 53 (f := .free "int") rfl)
    b_bool := He.free_ok X G (c.fact 54 (f := .free "bool") rfl)
    b_tuple := He.free_ok X G (c.fact 55 (f := .free "tuple") rfl)
    b_list := He.free_ok X G (c.fact 56 (f := .free "list") rfl)
    b_dict := He.free_ok X G (c.fact 57 (f := .free "dict") rfl)
    b_len := He.free_ok X G (c.fact 58 (f := .free "len") rfl)
    b_all := He.free_ok X G (c.fact 59 (f := .free "all") rfl)
    b_zip := He.free_ok X G (c.fact 60 (f := .free "zip") rfl)
    b_enumerate := He.free_ok X G (c.fact 61 (f := .free "enumerate") rfl)
    b_range := He.free_ok X G (c.fact 62 (f := .free "range") rfl)
    b_sorted := He.free_ok X G (c.fact 63 (f := .free "sorted") rfl)
    b_set := He.free_ok X G (c.fact 64 (f := .free "set") rfl)
    b_sum := He.free_ok X G (c.fact 65 (f := .free "sum") rfl)
    m_DEEPEST_LEVEL := He.int_ok X G (c.fact 71 (f := .int "DEEPEST_LEVEL" (12)) rfl)
    m_LONGEST_NUMBER := He.int_ok X G (c.fact 72 (f := .int "LONGEST_NUMBER" (5)) rfl)
    m_THROUGH := He.int_ok X G (c.fact 73 (f := .int "THROUGH" (-1)) rfl)
    m_FINISH := He.int_ok X G (c.fact 74 (f := .int "FINISH" (-2)) rfl)
    m_MOST_ASKS := He.int_ok X G (c.fact 75 (f := .int "MOST_ASKS" (6)) rfl)
    m_MOST_ANSWERS := He.int_ok X G (c.fact 76 (f := .int "MOST_ANSWERS" (4)) rfl)
    m_MOST_SIGNALS := He.int_ok X G (c.fact 77 (f := .int "MOST_SIGNALS" (3)) rfl)
    m_MOST_ROOM := He.int_ok X G (c.fact 78 (f := .int "MOST_ROOM" (3)) rfl)
    m_MOST_SIGNAL_WORDS := He.int_ok X G (c.fact 79 (f := .int "MOST_SIGNAL_WORDS" (3)) rfl)
    m_MOST_INPUTS := He.int_ok X G (c.fact 80 (f := .int "MOST_INPUTS" (3)) rfl)
    m_MOST_ROWS := He.int_ok X G (c.fact 81 (f := .int "MOST_ROWS" (60)) rfl)
    m_MOST_LABELS := He.int_ok X G (c.fact 82 (f := .int "MOST_LABELS" (6)) rfl)
    m_MOST_SLOTS := He.int_ok X G (c.fact 83 (f := .int "MOST_SLOTS" (4)) rfl)
    m_MOST_GATES := He.int_ok X G (c.fact 84 (f := .int "MOST_GATES" (8)) rfl)
    m_DEEPEST := He.int_ok X G (c.fact 85 (f := .int "DEEPEST" (5)) rfl)
    m_MOST_IN_ROW := He.int_ok X G (c.fact 86 (f := .int "MOST_IN_ROW" (3)) rfl)
    m_LONGEST_WORD := He.int_ok X G (c.fact 87 (f := .int "LONGEST_WORD" (8)) rfl)
    m_STEP := He.str_ok X G (c.fact 88 (f := .str "STEP" "  ") rfl)
    m_DIGITS := He.str_ok X G (c.fact 89 (f := .str "DIGITS" "0123456789") rfl)
    m_EDIT := He.str_ok X G (c.fact 90 (f := .str "EDIT" "edit") rfl)
    m_INPUT_SLOT := He.str_ok X G (c.fact 91 (f := .str "INPUT_SLOT" "in") rfl)
    m_FORMS := He.glo_ok X G (c.fact 11 (f := .glo "FORMS") rfl)
    D_FORMS := c0.tab 0 (t := (fun K => He.ga K "FORMS", ["ask", "timer", "await", "first", "drop", "take", "note", "put", "if", "loop", "leave", "part", "both", "gate", "past", "edit", "end", "anew"])) rfl
    forms := e.forms
    m_Program := He.glo_ok X G (c.fact 6 (f := .glo "Program") rfl)
    m_OUTER_FORMS := He.glo_ok X G (c.fact 12 (f := .glo "OUTER_FORMS") rfl)
    m_COMMAND_FORMS := He.glo_ok X G (c.fact 13 (f := .glo "COMMAND_FORMS") rfl)
    m_DIVIDERS := He.glo_ok X G (c.fact 14 (f := .glo "DIVIDERS") rfl)
    m_INNER := He.glo_ok X G (c.fact 15 (f := .glo "INNER") rfl)
    m_SEVERAL := He.glo_ok X G (c.fact 16 (f := .glo "SEVERAL") rfl)
    D_OUTER_FORMS := c0.tab 1 (t := (fun K => He.ga K "OUTER_FORMS", ["begin", "answer", "rang", "signal"])) rfl
    D_COMMAND_FORMS := c0.tab 2 (t := (fun K => He.ga K "COMMAND_FORMS", ["asked", "set", "dropped", "noted", "marked", "ended", "anew"])) rfl
    outer := e.outer
    outN := e.outN
    cmd := fun e he => (by cases he)
    cmdN := e.cmdN
    t_INNER := by obtain ⟨p, h1, h2⟩ := e.inner; cases h1; exact h2
    t_SEVERAL := by obtain ⟨p, h1, h2⟩ := e.several; cases h1; exact h2
    c_Source := He.cls_ok (c.fact 92 (f := .cls "Source") rfl)
    n_Source_lines := He.noat_ok (c.fact 94 (f := .noat "Source" "lines") rfl)
    n_Source_lines_read := He.noat_ok (c.fact 95 (f := .noat "Source" "lines_read") rfl)
    c_RowCheck := He.cls_ok (c.fact 96 (f := .cls "RowCheck") rfl)
    n_RowCheck_ask_table := He.noat_ok (c.fact 98 (f := .noat "RowCheck" "ask_table") rfl)
    n_RowCheck_signal_table := He.noat_ok (c.fact 99 (f := .noat "RowCheck" "signal_table") rfl)
    n_RowCheck_with_edits := He.noat_ok (c.fact 100 (f := .noat "RowCheck" "with_edits") rfl)
    n_RowCheck_seen_edits := He.noat_ok (c.fact 101 (f := .noat "RowCheck" "seen_edits") rfl)
    n_RowCheck_seen_gates := He.noat_ok (c.fact 102 (f := .noat "RowCheck" "seen_gates") rfl)
    c_Plan := He.cls_ok (c.fact 103 (f := .cls "Plan") rfl)
    n_Plan_flat := He.noat_ok (c.fact 105 (f := .noat "Plan" "flat") rfl)
    n_Plan_places := He.noat_ok (c.fact 106 (f := .noat "Plan" "places") rfl)
    n_Plan_behind := He.noat_ok (c.fact 107 (f := .noat "Plan" "behind") rfl)
    n_Plan_entries := He.noat_ok (c.fact 108 (f := .noat "Plan" "entries") rfl)
    n_Plan_sides := He.noat_ok (c.fact 109 (f := .noat "Plan" "sides") rfl)
    n_Plan_starts := He.noat_ok (c.fact 110 (f := .noat "Plan" "starts") rfl)
    n_Plan_numbers := He.noat_ok (c.fact 111 (f := .noat "Plan" "numbers") rfl)
    c_Program := He.cls_ok (c.fact 112 (f := .cls "Program") rfl)
    n_Program_ask_table := He.noat_ok (c.fact 114 (f := .noat "Program" "ask_table") rfl)
    n_Program_signal_table := He.noat_ok (c.fact 115 (f := .noat "Program" "signal_table") rfl)
    n_Program_input_words := He.noat_ok (c.fact 116 (f := .noat "Program" "input_words") rfl)
    n_Program_row_list := He.noat_ok (c.fact 117 (f := .noat "Program" "row_list") rfl)
    n_Program_plan := He.noat_ok (c.fact 118 (f := .noat "Program" "plan") rfl)
    n_Program_name_table := He.noat_ok (c.fact 119 (f := .noat "Program" "name_table") rfl) }
theorem def_IP (X : K.In h) (G : h.Ns mainGlobals mg) (e : ExF K) (c : He.SaysD fa fn K) : ErrDef P w K mg base CX0 1 "InvalidProgram" (cIP K) ["self", "part", "path"] ["part", "path"] := by
  obtain ⟨fd, F⟩ := c.def_ 0 (d := dIP) rfl
  obtain ⟨i1, i2⟩ := He.ba e.iniIP
  refine ⟨⟨_, fd, He.glo_ok X G (c.fact 0 (f := .glo "InvalidProgram") rfl), e.errIP, He.eqO_ok i1, of_decide_eq_true i2, F.bindsN (ps := ["self", "part", "path"]) (fun _ _ _ _ _ _ us hl => match us, hl with | [_, _, _], _ => rfl), fun s u ws _ hl => ?_, ?_, by decide, rfl⟩⟩
  · obtain ⟨oc, od, dV, kV, doc, pm, an, cdv, ct, osl, rfl, _, _, hD, _⟩ := F.ex
    rcases hD with ⟨_, rfl⟩ | ⟨z, _⟩
    · match ws, hl with
      | [_, _], _ => exact .of_eq rfl
    · exact absurd rfl z
  · exact ok_ini2 F ⟨rfl, rfl, rfl, by decide +kernel, rfl, by decide +kernel, by decide +kernel⟩ rfl rfl rfl (by decide) (by decide) (by decide) (by decide) e.errIP (He.noat_ok (c.fact 66 (f := .noat "InvalidProgram" "part") rfl)) (He.noat_ok (c.fact 67 (f := .noat "InvalidProgram" "path") rfl))
theorem def_IH (X : K.In h) (G : h.Ns mainGlobals mg) (e : ExF K) (c : He.SaysD fa fn K) : ErrDef P w K mg base CX0 1 "InvalidHistory" (cIH K) ["self", "at"] ["at"] := by
  obtain ⟨fd, F⟩ := c.def_ 1 (d := dIH) rfl
  obtain ⟨i1, i2⟩ := He.ba e.iniIH
  refine ⟨⟨_, fd, He.glo_ok X G (c.fact 1 (f := .glo "InvalidHistory") rfl), e.errIH, He.eqO_ok i1, of_decide_eq_true i2, F.bindsN (ps := ["self", "at"]) (fun _ _ _ _ _ _ us hl => match us, hl with | [_, _], _ => rfl), fun s u ws _ hl => ?_, ?_, by decide, rfl⟩⟩
  · obtain ⟨oc, od, dV, kV, doc, pm, an, cdv, ct, osl, rfl, _, _, hD, _⟩ := F.ex
    rcases hD with ⟨_, rfl⟩ | ⟨z, _⟩
    · match ws, hl with
      | [_], _ => exact .of_eq rfl
    · exact absurd rfl z
  · exact ok_ini1 F ⟨rfl, rfl, rfl, by decide +kernel, rfl, by decide +kernel, by decide +kernel⟩ rfl rfl (by decide) (by decide) e.errIH (He.noat_ok (c.fact 68 (f := .noat "InvalidHistory" "at") rfl))
theorem def_IT (X : K.In h) (G : h.Ns mainGlobals mg) (e : ExF K) (c : He.SaysD fa fn K) : ErrDef P w K mg base CX0 1 "InvalidText" (cIT K) ["self", "line"] ["line"] := by
  obtain ⟨fd, F⟩ := c.def_ 2 (d := dIT) rfl
  obtain ⟨i1, i2⟩ := He.ba e.iniIT
  refine ⟨⟨_, fd, He.glo_ok X G (c.fact 2 (f := .glo "InvalidText") rfl), e.errIT, He.eqO_ok i1, of_decide_eq_true i2, F.bindsN (ps := ["self", "line"]) (fun _ _ _ _ _ _ us hl => match us, hl with | [_, _], _ => rfl), fun s u ws _ hl => ?_, ?_, by decide, rfl⟩⟩
  · obtain ⟨oc, od, dV, kV, doc, pm, an, cdv, ct, osl, rfl, _, _, hD, _⟩ := F.ex
    rcases hD with ⟨_, rfl⟩ | ⟨z, _⟩
    · match ws, hl with
      | [_], _ => exact .of_eq rfl
    · exact absurd rfl z
  · exact ok_ini1 F ⟨rfl, rfl, rfl, by decide +kernel, rfl, by decide +kernel, by decide +kernel⟩ rfl rfl (by decide) (by decide) e.errIT (He.noat_ok (c.fact 69 (f := .noat "InvalidText" "line") rfl))
theorem def_IA (X : K.In h) (G : h.Ns mainGlobals mg) (e : ExF K) (c : He.SaysD fa fn K) : ErrDef P w K mg base CX0 1 "InvalidArgument" (cIA K) ["self", "part"] ["part"] := by
  obtain ⟨fd, F⟩ := c.def_ 3 (d := dIA) rfl
  obtain ⟨i1, i2⟩ := He.ba e.iniIA
  refine ⟨⟨_, fd, He.glo_ok X G (c.fact 3 (f := .glo "InvalidArgument") rfl), e.errIA, He.eqO_ok i1, of_decide_eq_true i2, F.bindsN (ps := ["self", "part"]) (fun _ _ _ _ _ _ us hl => match us, hl with | [_, _], _ => rfl), fun s u ws _ hl => ?_, ?_, by decide, rfl⟩⟩
  · obtain ⟨oc, od, dV, kV, doc, pm, an, cdv, ct, osl, rfl, _, _, hD, _⟩ := F.ex
    rcases hD with ⟨_, rfl⟩ | ⟨z, _⟩
    · match ws, hl with
      | [_], _ => exact .of_eq rfl
    · exact absurd rfl z
  · exact ok_ini1 F ⟨rfl, rfl, rfl, by decide +kernel, rfl, by decide +kernel, by decide +kernel⟩ rfl rfl (by decide) (by decide) e.errIA (He.noat_ok (c.fact 70 (f := .noat "InvalidArgument" "part") rfl))
theorem kw_one {v : Value} (k : (match v with
    | .ref D => He.eqO (PySem.W.nsIn K D "asks") (some (some .none))
    | _ => false) = true) : ∃ D, v = .ref D ∧ PySem.W.nsIn K D "asks" = some (some .none) := by
  cases v with
  | ref D => exact ⟨D, rfl, He.eqO_ok k⟩
  | _ => cases k
theorem kw_Program {f : Addr} {fd : FuncData} (k : kwB K "Program" = true) (F : FunD K "__init__" "Program.__init__" (defArgs s_Program___init__) (defBody s_Program___init__) (defScope s_Program___init__) [] [] f fd) (hf : f = He.fAd K ("Program", some "__init__")) :
    FunD K "__init__" "Program.__init__" (defArgs s_Program___init__) (defBody s_Program___init__) (defScope s_Program___init__) [] [("asks", .non)] f fd ∧ KBn K fd p_Program___init__ 2 kw3 (fun vs zs => vs ++ zs) (fun vs zs => vs ++ zs) := by
  have F2 : FunD K "__init__" "Program.__init__" (defArgs s_Program___init__) (defBody s_Program___init__) (defScope s_Program___init__) [] [("asks", .non)] f fd := by
    obtain ⟨oc, od, dV, kV, doc, pm, an, cdv, ct, osl, rfl, lk, hcd, hD, _⟩ := F.ex
    subst hf
    unfold kwB at k
    rw [lk] at k
    obtain ⟨D, rfl, k3⟩ := kw_one k
    refine ⟨⟨oc, od, dV, .ref D, doc, pm, an, cdv, ct, osl, rfl, lk, hcd, hD, .inr ⟨D, rfl, fun q hq => ?_⟩⟩, F.kp⟩
    rw [List.mem_singleton.mp hq]
    exact ⟨_, k3, rfl⟩
  obtain ⟨mv, b⟩ := F2.kbinds0 (ps := p_Program___init__) 2 kw3 [] (fun vs _ zs => vs ++ zs) (by simp) (by simp) (fun r1 _ r3 => r1.append r3) (fun D doc pm an cdv ct us mv ws h1 h2 h3 => match us, h1, mv, h2, ws, h3 with
    | [_, _], _, [], _, [_, _, _], _ => rfl)
  exact ⟨F2, b⟩
theorem facts (X : K.In h) (G : h.Ns mainGlobals mg) {f : Addr} (hfa : mg ("law" : Str) = some (.ref f)) (ee : ex K = true) (c0 : He.SaysT fa fn ts w K) :
    ∃ fd : FuncData, (∀ (s : Shared) (v : Value), BindsTo s fd ⟨[v], []⟩ [("_law_script", v)]) ∧ ∀ base : Heap, K.In base → base.Ns mainGlobals mg → FnOk P w K mg base CX0 47 f fd ["_law_script"] (spLaw K) := by
  have e := ex_ok ee
  have T := names X G e c0
  have c := c0.d
  obtain ⟨fd_lists_of, Fd_lists_of⟩ := c.def_ 4 (d := d_lists_of) rfl
  obtain ⟨fd_with_lists, Fd_with_lists⟩ := c.def_ 5 (d := d_with_lists) rfl
  obtain ⟨fd_words_named, Fd_words_named⟩ := c.def_ 6 (d := d_words_named) rfl
  obtain ⟨fd_copied, Fd_copied⟩ := c.def_ 7 (d := d_copied) rfl
  obtain ⟨fd_is_word, Fd_is_word⟩ := c.def_ 8 (d := d_is_word) rfl
  obtain ⟨fd_is_integer, Fd_is_integer⟩ := c.def_ 9 (d := d_is_integer) rfl
  obtain ⟨fd_are_words, Fd_are_words⟩ := c.def_ 10 (d := d_are_words) rfl
  obtain ⟨fd_RowCheck___init__, Fd_RowCheck___init__⟩ := c.def_ 11 (d := d_RowCheck___init__) rfl
  obtain ⟨fd_RowCheck_check_rows, Fd_RowCheck_check_rows⟩ := c.def_ 12 (d := d_RowCheck_check_rows) rfl
  obtain ⟨fd_RowCheck_check_list, Fd_RowCheck_check_list⟩ := c.def_ 13 (d := d_RowCheck_check_list) rfl
  obtain ⟨fd_RowCheck_has_form, Fd_RowCheck_has_form⟩ := c.def_ 14 (d := d_RowCheck_has_form) rfl
  obtain ⟨fd_RowCheck_fits, Fd_RowCheck_fits⟩ := c.def_ 15 (d := d_RowCheck_fits) rfl
  obtain ⟨fd_RowCheck_is_new, Fd_RowCheck_is_new⟩ := c.def_ 16 (d := d_RowCheck_is_new) rfl
  obtain ⟨fd_are_sides, Fd_are_sides⟩ := c.def_ 17 (d := d_are_sides) rfl
  obtain ⟨fd_may_stand, Fd_may_stand⟩ := c.def_ 18 (d := d_may_stand) rfl
  obtain ⟨fd_Plan___init__, Fd_Plan___init__⟩ := c.def_ 19 (d := d_Plan___init__) rfl
  obtain ⟨fd_Plan_lay_list, Fd_Plan_lay_list⟩ := c.def_ 20 (d := d_Plan_lay_list) rfl
  obtain ⟨fd_Plan_lay_row, Fd_Plan_lay_row⟩ := c.def_ 21 (d := d_Plan_lay_row) rfl
  obtain ⟨fd_size_of, Fd_size_of⟩ := c.def_ 22 (d := d_size_of) rfl
  obtain ⟨fd_end_within, Fd_end_within⟩ := c.def_ 23 (d := d_end_within) rfl
  obtain ⟨fd_Draft___init__, Fd_Draft___init__⟩ := c.def_ 24 (d := d_Draft___init__) rfl
  obtain ⟨fd_checked_table, Fd_checked_table⟩ := c.def_ 25 (d := d_checked_table) rfl
  obtain ⟨fd_is_entry, Fd_is_entry⟩ := c.def_ 26 (d := d_is_entry) rfl
  obtain ⟨fd_named_in, Fd_named_in⟩ := c.def_ 27 (d := d_named_in) rfl
  obtain ⟨fd_check_sizes, Fd_check_sizes⟩ := c.def_ 28 (d := d_check_sizes) rfl
  obtain ⟨fd_Program___init__, Fd_Program___init__⟩ := c.def_ 29 (d := d_Program___init__) rfl
  obtain ⟨fd_cut, Fd_cut⟩ := c.def_ 30 (d := d_cut) rfl
  obtain ⟨fd_program_text, Fd_program_text⟩ := c.def_ 31 (d := d_program_text) rfl
  obtain ⟨fd_Source___init__, Fd_Source___init__⟩ := c.def_ 32 (d := d_Source___init__) rfl
  obtain ⟨fd_Source_next_line, Fd_Source_next_line⟩ := c.def_ 33 (d := d_Source_next_line) rfl
  obtain ⟨fd_Source_next_words, Fd_Source_next_words⟩ := c.def_ 34 (d := d_Source_next_words) rfl
  obtain ⟨fd_Source_is_at, Fd_Source_is_at⟩ := c.def_ 35 (d := d_Source_is_at) rfl
  obtain ⟨fd_Source_go_on, Fd_Source_go_on⟩ := c.def_ 36 (d := d_Source_go_on) rfl
  obtain ⟨fd_read_program, Fd_read_program⟩ := c.def_ 37 (d := d_read_program) rfl
  obtain ⟨fd_are_some, Fd_are_some⟩ := c.def_ 38 (d := d_are_some) rfl
  obtain ⟨fd_read_table, Fd_read_table⟩ := c.def_ 39 (d := d_read_table) rfl
  obtain ⟨fd_read_list, Fd_read_list⟩ := c.def_ 40 (d := d_read_list) rfl
  obtain ⟨fd_parts_of, Fd_parts_of⟩ := c.def_ 41 (d := d_parts_of) rfl
  obtain ⟨fd_read_inner, Fd_read_inner⟩ := c.def_ 42 (d := d_read_inner) rfl
  obtain ⟨fd_history_text, Fd_history_text⟩ := c.def_ 43 (d := d_history_text) rfl
  obtain ⟨fd_read_history, Fd_read_history⟩ := c.def_ 44 (d := d_read_history) rfl
  obtain ⟨fd_token_of, Fd_token_of⟩ := c.def_ 45 (d := d_token_of) rfl
  obtain ⟨fd_fits_word, Fd_fits_word⟩ := c.def_ 46 (d := d_fits_word) rfl
  obtain ⟨fd__law_pool, Fd__law_pool⟩ := c.def_ 47 (d := d__law_pool) rfl
  obtain ⟨fd__law_draw, Fd__law_draw⟩ := c.def_ 48 (d := d__law_draw) rfl
  obtain ⟨fd__law_item, Fd__law_item⟩ := c.def_ 49 (d := d__law_item) rfl
  obtain ⟨fd__law_call, Fd__law_call⟩ := c.def_ 50 (d := d__law_call) rfl
  obtain ⟨fd__law_nested, Fd__law_nested⟩ := c.def_ 51 (d := d__law_nested) rfl
  obtain ⟨fd__law_nested_due, Fd__law_nested_due⟩ := c.def_ 52 (d := d__law_nested_due) rfl
  obtain ⟨fd_law, Fd_law⟩ := c.def_ 53 (d := d_law) rfl
  have z := hfa.symm.trans (He.glo_ok X G (c.fact 50 (f := .glo "law") rfl))
  cases z
  have b := FunD.bindsA (ps := ["_law_script"]) Fd_law fun _ _ _ _ _ _ us hl => match us, hl with | [_], _ => rfl
  refine ⟨fd_law, fun s v => b s [v] rfl, fun base _ _ => ?_⟩
  have IP := def_IP (P := P) (w := w) (base := base) X G e c
  have IH := def_IH (P := P) (w := w) (base := base) X G e c
  have IT := def_IT (P := P) (w := w) (base := base) X G e c
  have IA := def_IA (P := P) (w := w) (base := base) X G e c
  have G_is_word : Def P w K mg base CX0 1 "is_word" p_is_word (spIsWord K) := ⟨⟨_, fd_is_word, He.glo_ok X G (c.fact 21 (f := .glo "is_word") rfl), Fd_is_word.kp, Fd_is_word.bindsN (ps := p_is_word) (fun _ _ _ _ _ _ us hl => match us, hl with | [_], _ => rfl), ok_is_word Fd_is_word T⟩⟩
  have G_is_integer : Def P w K mg base CX0 1 "is_integer" p_is_integer spIsInt := ⟨⟨_, fd_is_integer, He.glo_ok X G (c.fact 22 (f := .glo "is_integer") rfl), Fd_is_integer.kp, Fd_is_integer.bindsN (ps := p_is_integer) (fun _ _ _ _ _ _ us hl => match us, hl with | [_], _ => rfl), ok_is_integer Fd_is_integer T⟩⟩
  have G_are_words : Def P w K mg base CX0 2 "are_words" p_are_words (spAreWords K) := ⟨⟨_, fd_are_words, He.glo_ok X G (c.fact 23 (f := .glo "are_words") rfl), Fd_are_words.kp, Fd_are_words.bindsN (ps := p_are_words) (fun _ _ _ _ _ _ us hl => match us, hl with | [_, _], _ => rfl), ok_are_words Fd_are_words T G_is_word⟩⟩
  have G_lists_of : Def P w K mg base CX0 1 "lists_of" p_lists_of (spListsOf K) := ⟨⟨_, fd_lists_of, He.glo_ok X G (c.fact 17 (f := .glo "lists_of") rfl), Fd_lists_of.kp, Fd_lists_of.bindsN (ps := p_lists_of) (fun _ _ _ _ _ _ us hl => match us, hl with | [_], _ => rfl), ok_lists_of Fd_lists_of T⟩⟩
  have G_words_named : Def P w K mg base CX0 1 "words_named" p_words_named (spNamed K) := ⟨⟨_, fd_words_named, He.glo_ok X G (c.fact 19 (f := .glo "words_named") rfl), Fd_words_named.kp, Fd_words_named.bindsN (ps := p_words_named) (fun _ _ _ _ _ _ us hl => match us, hl with | [_, _], _ => rfl), ok_words_named Fd_words_named T⟩⟩
  have G_with_lists : Def P w K mg base CX0 1 "with_lists" p_with_lists (spWith K) := ⟨⟨_, fd_with_lists, He.glo_ok X G (c.fact 18 (f := .glo "with_lists") rfl), Fd_with_lists.kp, Fd_with_lists.bindsN (ps := p_with_lists) (fun _ _ _ _ _ _ us hl => match us, hl with | [_, _], _ => rfl), ok_with_lists Fd_with_lists T⟩⟩
  have C0 : Def P w K mg base CX0 1 "copied" p_copied (spCopied K 0) := ⟨⟨_, fd_copied, He.glo_ok X G (c.fact 20 (f := .glo "copied") rfl), Fd_copied.kp, Fd_copied.bindsN (ps := p_copied) (fun _ _ _ _ _ _ us hl => match us, hl with | [_], _ => rfl), ⟨fun _ _ _ _ h => h.elim, fun _ _ _ _ _ _ _ _ _ _ _ _ _ h => h.elim⟩⟩⟩
  have C1 : Def P w K mg base CX0 2 "copied" p_copied (spCopied K 1) := ⟨⟨_, fd_copied, He.glo_ok X G (c.fact 20 (f := .glo "copied") rfl), Fd_copied.kp, Fd_copied.bindsN (ps := p_copied) (fun _ _ _ _ _ _ us hl => match us, hl with | [_], _ => rfl), ok_copied Fd_copied T (by decide) G_lists_of G_with_lists C0⟩⟩
  have C2 : Def P w K mg base CX0 3 "copied" p_copied (spCopied K 2) := ⟨⟨_, fd_copied, He.glo_ok X G (c.fact 20 (f := .glo "copied") rfl), Fd_copied.kp, Fd_copied.bindsN (ps := p_copied) (fun _ _ _ _ _ _ us hl => match us, hl with | [_], _ => rfl), ok_copied Fd_copied T (by decide) G_lists_of G_with_lists C1⟩⟩
  have C3 : Def P w K mg base CX0 4 "copied" p_copied (spCopied K 3) := ⟨⟨_, fd_copied, He.glo_ok X G (c.fact 20 (f := .glo "copied") rfl), Fd_copied.kp, Fd_copied.bindsN (ps := p_copied) (fun _ _ _ _ _ _ us hl => match us, hl with | [_], _ => rfl), ok_copied Fd_copied T (by decide) G_lists_of G_with_lists C2⟩⟩
  have C4 : Def P w K mg base CX0 5 "copied" p_copied (spCopied K 4) := ⟨⟨_, fd_copied, He.glo_ok X G (c.fact 20 (f := .glo "copied") rfl), Fd_copied.kp, Fd_copied.bindsN (ps := p_copied) (fun _ _ _ _ _ _ us hl => match us, hl with | [_], _ => rfl), ok_copied Fd_copied T (by decide) G_lists_of G_with_lists C3⟩⟩
  have C5 : Def P w K mg base CX0 6 "copied" p_copied (spCopied K 5) := ⟨⟨_, fd_copied, He.glo_ok X G (c.fact 20 (f := .glo "copied") rfl), Fd_copied.kp, Fd_copied.bindsN (ps := p_copied) (fun _ _ _ _ _ _ us hl => match us, hl with | [_], _ => rfl), ok_copied Fd_copied T (by decide) G_lists_of G_with_lists C4⟩⟩
  have C6 : Def P w K mg base CX0 7 "copied" p_copied (spCopied K 6) := ⟨⟨_, fd_copied, He.glo_ok X G (c.fact 20 (f := .glo "copied") rfl), Fd_copied.kp, Fd_copied.bindsN (ps := p_copied) (fun _ _ _ _ _ _ us hl => match us, hl with | [_], _ => rfl), ok_copied Fd_copied T (by decide) G_lists_of G_with_lists C5⟩⟩
  have C7 : Def P w K mg base CX0 8 "copied" p_copied (spCopied K 7) := ⟨⟨_, fd_copied, He.glo_ok X G (c.fact 20 (f := .glo "copied") rfl), Fd_copied.kp, Fd_copied.bindsN (ps := p_copied) (fun _ _ _ _ _ _ us hl => match us, hl with | [_], _ => rfl), ok_copied Fd_copied T (by decide) G_lists_of G_with_lists C6⟩⟩
  have C8 : Def P w K mg base CX0 9 "copied" p_copied (spCopied K 8) := ⟨⟨_, fd_copied, He.glo_ok X G (c.fact 20 (f := .glo "copied") rfl), Fd_copied.kp, Fd_copied.bindsN (ps := p_copied) (fun _ _ _ _ _ _ us hl => match us, hl with | [_], _ => rfl), ok_copied Fd_copied T (by decide) G_lists_of G_with_lists C7⟩⟩
  have C9 : Def P w K mg base CX0 10 "copied" p_copied (spCopied K 9) := ⟨⟨_, fd_copied, He.glo_ok X G (c.fact 20 (f := .glo "copied") rfl), Fd_copied.kp, Fd_copied.bindsN (ps := p_copied) (fun _ _ _ _ _ _ us hl => match us, hl with | [_], _ => rfl), ok_copied Fd_copied T (by decide) G_lists_of G_with_lists C8⟩⟩
  have C10 : Def P w K mg base CX0 11 "copied" p_copied (spCopied K 10) := ⟨⟨_, fd_copied, He.glo_ok X G (c.fact 20 (f := .glo "copied") rfl), Fd_copied.kp, Fd_copied.bindsN (ps := p_copied) (fun _ _ _ _ _ _ us hl => match us, hl with | [_], _ => rfl), ok_copied Fd_copied T (by decide) G_lists_of G_with_lists C9⟩⟩
  have C11 : Def P w K mg base CX0 12 "copied" p_copied (spCopied K 11) := ⟨⟨_, fd_copied, He.glo_ok X G (c.fact 20 (f := .glo "copied") rfl), Fd_copied.kp, Fd_copied.bindsN (ps := p_copied) (fun _ _ _ _ _ _ us hl => match us, hl with | [_], _ => rfl), ok_copied Fd_copied T (by decide) G_lists_of G_with_lists C10⟩⟩
  have C12 : Def P w K mg base CX0 13 "copied" p_copied (spCopied K 12) := ⟨⟨_, fd_copied, He.glo_ok X G (c.fact 20 (f := .glo "copied") rfl), Fd_copied.kp, Fd_copied.bindsN (ps := p_copied) (fun _ _ _ _ _ _ us hl => match us, hl with | [_], _ => rfl), ok_copied Fd_copied T (by decide) G_lists_of G_with_lists C11⟩⟩
  have C13 : Def P w K mg base CX0 14 "copied" p_copied (spCopied K 13) := ⟨⟨_, fd_copied, He.glo_ok X G (c.fact 20 (f := .glo "copied") rfl), Fd_copied.kp, Fd_copied.bindsN (ps := p_copied) (fun _ _ _ _ _ _ us hl => match us, hl with | [_], _ => rfl), ok_copied Fd_copied T (by decide) G_lists_of G_with_lists C12⟩⟩
  have Z0 : Def P w K mg base CX0 1 "size_of" p_size_of (spSize K 0) := ⟨⟨_, fd_size_of, He.glo_ok X G (c.fact 26 (f := .glo "size_of") rfl), Fd_size_of.kp, Fd_size_of.bindsN (ps := p_size_of) (fun _ _ _ _ _ _ us hl => match us, hl with | [_], _ => rfl), ⟨fun _ _ _ _ h => h.elim, fun _ _ _ _ _ _ _ _ _ _ _ _ _ h => h.elim⟩⟩⟩
  have Z1 : Def P w K mg base CX0 2 "size_of" p_size_of (spSize K 1) := ⟨⟨_, fd_size_of, He.glo_ok X G (c.fact 26 (f := .glo "size_of") rfl), Fd_size_of.kp, Fd_size_of.bindsN (ps := p_size_of) (fun _ _ _ _ _ _ us hl => match us, hl with | [_], _ => rfl), ok_size_of Fd_size_of T (by decide) G_lists_of Z0⟩⟩
  have Z2 : Def P w K mg base CX0 3 "size_of" p_size_of (spSize K 2) := ⟨⟨_, fd_size_of, He.glo_ok X G (c.fact 26 (f := .glo "size_of") rfl), Fd_size_of.kp, Fd_size_of.bindsN (ps := p_size_of) (fun _ _ _ _ _ _ us hl => match us, hl with | [_], _ => rfl), ok_size_of Fd_size_of T (by decide) G_lists_of Z1⟩⟩
  have Z3 : Def P w K mg base CX0 4 "size_of" p_size_of (spSize K 3) := ⟨⟨_, fd_size_of, He.glo_ok X G (c.fact 26 (f := .glo "size_of") rfl), Fd_size_of.kp, Fd_size_of.bindsN (ps := p_size_of) (fun _ _ _ _ _ _ us hl => match us, hl with | [_], _ => rfl), ok_size_of Fd_size_of T (by decide) G_lists_of Z2⟩⟩
  have Z4 : Def P w K mg base CX0 5 "size_of" p_size_of (spSize K 4) := ⟨⟨_, fd_size_of, He.glo_ok X G (c.fact 26 (f := .glo "size_of") rfl), Fd_size_of.kp, Fd_size_of.bindsN (ps := p_size_of) (fun _ _ _ _ _ _ us hl => match us, hl with | [_], _ => rfl), ok_size_of Fd_size_of T (by decide) G_lists_of Z3⟩⟩
  have Z5 : Def P w K mg base CX0 6 "size_of" p_size_of (spSize K 5) := ⟨⟨_, fd_size_of, He.glo_ok X G (c.fact 26 (f := .glo "size_of") rfl), Fd_size_of.kp, Fd_size_of.bindsN (ps := p_size_of) (fun _ _ _ _ _ _ us hl => match us, hl with | [_], _ => rfl), ok_size_of Fd_size_of T (by decide) G_lists_of Z4⟩⟩
  have Z6 : Def P w K mg base CX0 7 "size_of" p_size_of (spSize K 6) := ⟨⟨_, fd_size_of, He.glo_ok X G (c.fact 26 (f := .glo "size_of") rfl), Fd_size_of.kp, Fd_size_of.bindsN (ps := p_size_of) (fun _ _ _ _ _ _ us hl => match us, hl with | [_], _ => rfl), ok_size_of Fd_size_of T (by decide) G_lists_of Z5⟩⟩
  have Z7 : Def P w K mg base CX0 8 "size_of" p_size_of (spSize K 7) := ⟨⟨_, fd_size_of, He.glo_ok X G (c.fact 26 (f := .glo "size_of") rfl), Fd_size_of.kp, Fd_size_of.bindsN (ps := p_size_of) (fun _ _ _ _ _ _ us hl => match us, hl with | [_], _ => rfl), ok_size_of Fd_size_of T (by decide) G_lists_of Z6⟩⟩
  have Z8 : Def P w K mg base CX0 9 "size_of" p_size_of (spSize K 8) := ⟨⟨_, fd_size_of, He.glo_ok X G (c.fact 26 (f := .glo "size_of") rfl), Fd_size_of.kp, Fd_size_of.bindsN (ps := p_size_of) (fun _ _ _ _ _ _ us hl => match us, hl with | [_], _ => rfl), ok_size_of Fd_size_of T (by decide) G_lists_of Z7⟩⟩
  have Z9 : Def P w K mg base CX0 10 "size_of" p_size_of (spSize K 9) := ⟨⟨_, fd_size_of, He.glo_ok X G (c.fact 26 (f := .glo "size_of") rfl), Fd_size_of.kp, Fd_size_of.bindsN (ps := p_size_of) (fun _ _ _ _ _ _ us hl => match us, hl with | [_], _ => rfl), ok_size_of Fd_size_of T (by decide) G_lists_of Z8⟩⟩
  have Z10 : Def P w K mg base CX0 11 "size_of" p_size_of (spSize K 10) := ⟨⟨_, fd_size_of, He.glo_ok X G (c.fact 26 (f := .glo "size_of") rfl), Fd_size_of.kp, Fd_size_of.bindsN (ps := p_size_of) (fun _ _ _ _ _ _ us hl => match us, hl with | [_], _ => rfl), ok_size_of Fd_size_of T (by decide) G_lists_of Z9⟩⟩
  have Z11 : Def P w K mg base CX0 12 "size_of" p_size_of (spSize K 11) := ⟨⟨_, fd_size_of, He.glo_ok X G (c.fact 26 (f := .glo "size_of") rfl), Fd_size_of.kp, Fd_size_of.bindsN (ps := p_size_of) (fun _ _ _ _ _ _ us hl => match us, hl with | [_], _ => rfl), ok_size_of Fd_size_of T (by decide) G_lists_of Z10⟩⟩
  have Z12 : Def P w K mg base CX0 13 "size_of" p_size_of (spSize K 12) := ⟨⟨_, fd_size_of, He.glo_ok X G (c.fact 26 (f := .glo "size_of") rfl), Fd_size_of.kp, Fd_size_of.bindsN (ps := p_size_of) (fun _ _ _ _ _ _ us hl => match us, hl with | [_], _ => rfl), ok_size_of Fd_size_of T (by decide) G_lists_of Z11⟩⟩
  have Z13 : Def P w K mg base CX0 14 "size_of" p_size_of (spSize K 13) := ⟨⟨_, fd_size_of, He.glo_ok X G (c.fact 26 (f := .glo "size_of") rfl), Fd_size_of.kp, Fd_size_of.bindsN (ps := p_size_of) (fun _ _ _ _ _ _ us hl => match us, hl with | [_], _ => rfl), ok_size_of Fd_size_of T (by decide) G_lists_of Z12⟩⟩
  have G_are_sides : Def P w K mg base CX0 1 "are_sides" p_are_sides (spSides K) := ⟨⟨_, fd_are_sides, He.glo_ok X G (c.fact 24 (f := .glo "are_sides") rfl), Fd_are_sides.kp, Fd_are_sides.bindsN (ps := p_are_sides) (fun _ _ _ _ _ _ us hl => match us, hl with | [_], _ => rfl), ok_are_sides Fd_are_sides T⟩⟩
  have G_may_stand : Def P w K mg base CX0 2 "may_stand" p_may_stand (spMay K) := ⟨⟨_, fd_may_stand, He.glo_ok X G (c.fact 25 (f := .glo "may_stand") rfl), Fd_may_stand.kp, Fd_may_stand.bindsN (ps := p_may_stand) (fun _ _ _ _ _ _ us hl => match us, hl with | [_, _, _], _ => rfl), ok_may_stand Fd_may_stand T G_lists_of⟩⟩
  have M_fits : MDef P w K mg base CX0 3 (He.ga K "RowCheck") "fits" p_RowCheck_fits (spFits K) := ⟨T.c_RowCheck, ⟨_, fd_RowCheck_fits, He.meth_ok (c.fact 123 (f := .meth "RowCheck" "fits") rfl), Fd_RowCheck_fits.bindsN (ps := p_RowCheck_fits) (fun _ _ _ _ _ _ us hl => match us, hl with | [_, _, _], _ => rfl), ok_fits Fd_RowCheck_fits T G_is_word G_are_words G_are_sides⟩⟩
  have M_has_form : MDef P w K mg base CX0 4 (He.ga K "RowCheck") "has_form" p_RowCheck_has_form (spHasForm K) := ⟨T.c_RowCheck, ⟨_, fd_RowCheck_has_form, He.meth_ok (c.fact 122 (f := .meth "RowCheck" "has_form") rfl), Fd_RowCheck_has_form.bindsN (ps := p_RowCheck_has_form) (fun _ _ _ _ _ _ us hl => match us, hl with | [_, _], _ => rfl), ok_has_form Fd_RowCheck_has_form T M_fits⟩⟩
  have M_is_new : MDef P w K mg base CX0 1 (He.ga K "RowCheck") "is_new" p_RowCheck_is_new (spIsNew K) := ⟨T.c_RowCheck, ⟨_, fd_RowCheck_is_new, He.meth_ok (c.fact 124 (f := .meth "RowCheck" "is_new") rfl), Fd_RowCheck_is_new.bindsN (ps := p_RowCheck_is_new) (fun _ _ _ _ _ _ us hl => match us, hl with | [_, _], _ => rfl), ok_is_new Fd_RowCheck_is_new T⟩⟩
  have V0 : MDef P w K mg base (L2.CX P w) 5 (He.ga K "RowCheck") "check_list" p_RowCheck_check_list (spCheck K 0) := ⟨T.c_RowCheck, ⟨_, fd_RowCheck_check_list, He.meth_ok (c.fact 121 (f := .meth "RowCheck" "check_list") rfl), Fd_RowCheck_check_list.bindsN (ps := p_RowCheck_check_list) (fun _ _ _ _ _ _ us hl => match us, hl with | [_, _, _, _], _ => rfl), ⟨fun _ _ _ _ h => h.elim, fun _ _ _ _ _ _ _ _ _ _ _ _ _ h => h.elim⟩⟩⟩
  have V1 : MDef P w K mg base (L2.CX P w) 6 (He.ga K "RowCheck") "check_list" p_RowCheck_check_list (spCheck K 1) := ⟨T.c_RowCheck, ⟨_, fd_RowCheck_check_list, He.meth_ok (c.fact 121 (f := .meth "RowCheck" "check_list") rfl), Fd_RowCheck_check_list.bindsN (ps := p_RowCheck_check_list) (fun _ _ _ _ _ _ us hl => match us, hl with | [_, _, _, _], _ => rfl), ok_check_list Fd_RowCheck_check_list T (by decide) IP G_lists_of G_may_stand M_has_form M_is_new V0⟩⟩
  have V2 : MDef P w K mg base (L2.CX P w) 7 (He.ga K "RowCheck") "check_list" p_RowCheck_check_list (spCheck K 2) := ⟨T.c_RowCheck, ⟨_, fd_RowCheck_check_list, He.meth_ok (c.fact 121 (f := .meth "RowCheck" "check_list") rfl), Fd_RowCheck_check_list.bindsN (ps := p_RowCheck_check_list) (fun _ _ _ _ _ _ us hl => match us, hl with | [_, _, _, _], _ => rfl), ok_check_list Fd_RowCheck_check_list T (by decide) IP G_lists_of G_may_stand M_has_form M_is_new V1⟩⟩
  have V3 : MDef P w K mg base (L2.CX P w) 8 (He.ga K "RowCheck") "check_list" p_RowCheck_check_list (spCheck K 3) := ⟨T.c_RowCheck, ⟨_, fd_RowCheck_check_list, He.meth_ok (c.fact 121 (f := .meth "RowCheck" "check_list") rfl), Fd_RowCheck_check_list.bindsN (ps := p_RowCheck_check_list) (fun _ _ _ _ _ _ us hl => match us, hl with | [_, _, _, _], _ => rfl), ok_check_list Fd_RowCheck_check_list T (by decide) IP G_lists_of G_may_stand M_has_form M_is_new V2⟩⟩
  have V4 : MDef P w K mg base (L2.CX P w) 9 (He.ga K "RowCheck") "check_list" p_RowCheck_check_list (spCheck K 4) := ⟨T.c_RowCheck, ⟨_, fd_RowCheck_check_list, He.meth_ok (c.fact 121 (f := .meth "RowCheck" "check_list") rfl), Fd_RowCheck_check_list.bindsN (ps := p_RowCheck_check_list) (fun _ _ _ _ _ _ us hl => match us, hl with | [_, _, _, _], _ => rfl), ok_check_list Fd_RowCheck_check_list T (by decide) IP G_lists_of G_may_stand M_has_form M_is_new V3⟩⟩
  have V5 : MDef P w K mg base (L2.CX P w) 10 (He.ga K "RowCheck") "check_list" p_RowCheck_check_list (spCheck K 5) := ⟨T.c_RowCheck, ⟨_, fd_RowCheck_check_list, He.meth_ok (c.fact 121 (f := .meth "RowCheck" "check_list") rfl), Fd_RowCheck_check_list.bindsN (ps := p_RowCheck_check_list) (fun _ _ _ _ _ _ us hl => match us, hl with | [_, _, _, _], _ => rfl), ok_check_list Fd_RowCheck_check_list T (by decide) IP G_lists_of G_may_stand M_has_form M_is_new V4⟩⟩
  have V6 : MDef P w K mg base (L2.CX P w) 11 (He.ga K "RowCheck") "check_list" p_RowCheck_check_list (spCheck K 6) := ⟨T.c_RowCheck, ⟨_, fd_RowCheck_check_list, He.meth_ok (c.fact 121 (f := .meth "RowCheck" "check_list") rfl), Fd_RowCheck_check_list.bindsN (ps := p_RowCheck_check_list) (fun _ _ _ _ _ _ us hl => match us, hl with | [_, _, _, _], _ => rfl), ok_check_list Fd_RowCheck_check_list T (by decide) IP G_lists_of G_may_stand M_has_form M_is_new V5⟩⟩
  have V7 : MDef P w K mg base (L2.CX P w) 12 (He.ga K "RowCheck") "check_list" p_RowCheck_check_list (spCheck K 7) := ⟨T.c_RowCheck, ⟨_, fd_RowCheck_check_list, He.meth_ok (c.fact 121 (f := .meth "RowCheck" "check_list") rfl), Fd_RowCheck_check_list.bindsN (ps := p_RowCheck_check_list) (fun _ _ _ _ _ _ us hl => match us, hl with | [_, _, _, _], _ => rfl), ok_check_list Fd_RowCheck_check_list T (by decide) IP G_lists_of G_may_stand M_has_form M_is_new V6⟩⟩
  have V8 : MDef P w K mg base (L2.CX P w) 13 (He.ga K "RowCheck") "check_list" p_RowCheck_check_list (spCheck K 8) := ⟨T.c_RowCheck, ⟨_, fd_RowCheck_check_list, He.meth_ok (c.fact 121 (f := .meth "RowCheck" "check_list") rfl), Fd_RowCheck_check_list.bindsN (ps := p_RowCheck_check_list) (fun _ _ _ _ _ _ us hl => match us, hl with | [_, _, _, _], _ => rfl), ok_check_list Fd_RowCheck_check_list T (by decide) IP G_lists_of G_may_stand M_has_form M_is_new V7⟩⟩
  have V9 : MDef P w K mg base (L2.CX P w) 14 (He.ga K "RowCheck") "check_list" p_RowCheck_check_list (spCheck K 9) := ⟨T.c_RowCheck, ⟨_, fd_RowCheck_check_list, He.meth_ok (c.fact 121 (f := .meth "RowCheck" "check_list") rfl), Fd_RowCheck_check_list.bindsN (ps := p_RowCheck_check_list) (fun _ _ _ _ _ _ us hl => match us, hl with | [_, _, _, _], _ => rfl), ok_check_list Fd_RowCheck_check_list T (by decide) IP G_lists_of G_may_stand M_has_form M_is_new V8⟩⟩
  have V10 : MDef P w K mg base (L2.CX P w) 15 (He.ga K "RowCheck") "check_list" p_RowCheck_check_list (spCheck K 10) := ⟨T.c_RowCheck, ⟨_, fd_RowCheck_check_list, He.meth_ok (c.fact 121 (f := .meth "RowCheck" "check_list") rfl), Fd_RowCheck_check_list.bindsN (ps := p_RowCheck_check_list) (fun _ _ _ _ _ _ us hl => match us, hl with | [_, _, _, _], _ => rfl), ok_check_list Fd_RowCheck_check_list T (by decide) IP G_lists_of G_may_stand M_has_form M_is_new V9⟩⟩
  have V11 : MDef P w K mg base (L2.CX P w) 16 (He.ga K "RowCheck") "check_list" p_RowCheck_check_list (spCheck K 11) := ⟨T.c_RowCheck, ⟨_, fd_RowCheck_check_list, He.meth_ok (c.fact 121 (f := .meth "RowCheck" "check_list") rfl), Fd_RowCheck_check_list.bindsN (ps := p_RowCheck_check_list) (fun _ _ _ _ _ _ us hl => match us, hl with | [_, _, _, _], _ => rfl), ok_check_list Fd_RowCheck_check_list T (by decide) IP G_lists_of G_may_stand M_has_form M_is_new V10⟩⟩
  have V12 : MDef P w K mg base (L2.CX P w) 17 (He.ga K "RowCheck") "check_list" p_RowCheck_check_list (spCheck K 12) := ⟨T.c_RowCheck, ⟨_, fd_RowCheck_check_list, He.meth_ok (c.fact 121 (f := .meth "RowCheck" "check_list") rfl), Fd_RowCheck_check_list.bindsN (ps := p_RowCheck_check_list) (fun _ _ _ _ _ _ us hl => match us, hl with | [_, _, _, _], _ => rfl), ok_check_list Fd_RowCheck_check_list T (by decide) IP G_lists_of G_may_stand M_has_form M_is_new V11⟩⟩
  have V13 : MDef P w K mg base (L2.CX P w) 18 (He.ga K "RowCheck") "check_list" p_RowCheck_check_list (spCheck K 13) := ⟨T.c_RowCheck, ⟨_, fd_RowCheck_check_list, He.meth_ok (c.fact 121 (f := .meth "RowCheck" "check_list") rfl), Fd_RowCheck_check_list.bindsN (ps := p_RowCheck_check_list) (fun _ _ _ _ _ _ us hl => match us, hl with | [_, _, _, _], _ => rfl), ok_check_list Fd_RowCheck_check_list T (by decide) IP G_lists_of G_may_stand M_has_form M_is_new V12⟩⟩
  have M_check_rows : MDef P w K mg base (L2.CX P w) 19 (He.ga K "RowCheck") "check_rows" p_RowCheck_check_rows (spCheckRows K 12) := ⟨T.c_RowCheck, ⟨_, fd_RowCheck_check_rows, He.meth_ok (c.fact 120 (f := .meth "RowCheck" "check_rows") rfl), Fd_RowCheck_check_rows.bindsN (ps := p_RowCheck_check_rows) (fun _ _ _ _ _ _ us hl => match us, hl with | [_, _], _ => rfl), ok_check_rows Fd_RowCheck_check_rows T (by decide) IP V13⟩⟩
  have K_RowCheck : MkA P w K mg base CX0 1 "RowCheck" (He.ga K "RowCheck") [] p_RowCheck___init__ (spRCinit K) := ⟨⟨_, fd_RowCheck___init__, [], He.glo_ok X G (c.fact 8 (f := .glo "RowCheck") rfl), He.mkr_ok (c.fact 97 (f := .mkr "RowCheck") rfl), Fd_RowCheck___init__.bindsN (ps := p_RowCheck___init__) (fun _ _ _ _ _ _ us hl => match us, hl with | [_, _, _, _], _ => rfl), .nil, ok_RCinit Fd_RowCheck___init__ T⟩⟩
  have G_end_within : Def P w K mg base CX0 1 "end_within" p_end_within (spEnd K) := ⟨⟨_, fd_end_within, He.glo_ok X G (c.fact 27 (f := .glo "end_within") rfl), Fd_end_within.kp, Fd_end_within.bindsN (ps := p_end_within) (fun _ _ _ _ _ _ us hl => match us, hl with | [_, _, _], _ => rfl), ok_end_within Fd_end_within T⟩⟩
  have R0 : MDef P w K mg base CX0 14 (He.ga K "Plan") "lay_row" p_Plan_lay_row (spLayRow K 0) := ⟨T.c_Plan, ⟨_, fd_Plan_lay_row, He.meth_ok (c.fact 126 (f := .meth "Plan" "lay_row") rfl), Fd_Plan_lay_row.bindsN (ps := p_Plan_lay_row) (fun _ _ _ _ _ _ us hl => match us, hl with | [_, _, _, _, _], _ => rfl), ⟨fun _ _ _ _ h => h.elim, fun _ _ _ _ _ _ _ _ _ _ _ _ _ h => h.elim⟩⟩⟩
  have Y1 : MDef P w K mg base CX0 15 (He.ga K "Plan") "lay_list" p_Plan_lay_list (spLayList K 1) := ⟨T.c_Plan, ⟨_, fd_Plan_lay_list, He.meth_ok (c.fact 125 (f := .meth "Plan" "lay_list") rfl), Fd_Plan_lay_list.bindsN (ps := p_Plan_lay_list) (fun _ _ _ _ _ _ us hl => match us, hl with | [_, _, _, _, _], _ => rfl), ok_lay_list Fd_Plan_lay_list T (by decide) Z1 R0⟩⟩
  have R1 : MDef P w K mg base CX0 16 (He.ga K "Plan") "lay_row" p_Plan_lay_row (spLayRow K 1) := ⟨T.c_Plan, ⟨_, fd_Plan_lay_row, He.meth_ok (c.fact 126 (f := .meth "Plan" "lay_row") rfl), Fd_Plan_lay_row.bindsN (ps := p_Plan_lay_row) (fun _ _ _ _ _ _ us hl => match us, hl with | [_, _, _, _, _], _ => rfl), ok_lay_row Fd_Plan_lay_row T (by decide) G_lists_of G_end_within Y1⟩⟩
  have Y2 : MDef P w K mg base CX0 17 (He.ga K "Plan") "lay_list" p_Plan_lay_list (spLayList K 2) := ⟨T.c_Plan, ⟨_, fd_Plan_lay_list, He.meth_ok (c.fact 125 (f := .meth "Plan" "lay_list") rfl), Fd_Plan_lay_list.bindsN (ps := p_Plan_lay_list) (fun _ _ _ _ _ _ us hl => match us, hl with | [_, _, _, _, _], _ => rfl), ok_lay_list Fd_Plan_lay_list T (by decide) Z2 R1⟩⟩
  have R2 : MDef P w K mg base CX0 18 (He.ga K "Plan") "lay_row" p_Plan_lay_row (spLayRow K 2) := ⟨T.c_Plan, ⟨_, fd_Plan_lay_row, He.meth_ok (c.fact 126 (f := .meth "Plan" "lay_row") rfl), Fd_Plan_lay_row.bindsN (ps := p_Plan_lay_row) (fun _ _ _ _ _ _ us hl => match us, hl with | [_, _, _, _, _], _ => rfl), ok_lay_row Fd_Plan_lay_row T (by decide) G_lists_of G_end_within Y2⟩⟩
  have Y3 : MDef P w K mg base CX0 19 (He.ga K "Plan") "lay_list" p_Plan_lay_list (spLayList K 3) := ⟨T.c_Plan, ⟨_, fd_Plan_lay_list, He.meth_ok (c.fact 125 (f := .meth "Plan" "lay_list") rfl), Fd_Plan_lay_list.bindsN (ps := p_Plan_lay_list) (fun _ _ _ _ _ _ us hl => match us, hl with | [_, _, _, _, _], _ => rfl), ok_lay_list Fd_Plan_lay_list T (by decide) Z3 R2⟩⟩
  have R3 : MDef P w K mg base CX0 20 (He.ga K "Plan") "lay_row" p_Plan_lay_row (spLayRow K 3) := ⟨T.c_Plan, ⟨_, fd_Plan_lay_row, He.meth_ok (c.fact 126 (f := .meth "Plan" "lay_row") rfl), Fd_Plan_lay_row.bindsN (ps := p_Plan_lay_row) (fun _ _ _ _ _ _ us hl => match us, hl with | [_, _, _, _, _], _ => rfl), ok_lay_row Fd_Plan_lay_row T (by decide) G_lists_of G_end_within Y3⟩⟩
  have Y4 : MDef P w K mg base CX0 21 (He.ga K "Plan") "lay_list" p_Plan_lay_list (spLayList K 4) := ⟨T.c_Plan, ⟨_, fd_Plan_lay_list, He.meth_ok (c.fact 125 (f := .meth "Plan" "lay_list") rfl), Fd_Plan_lay_list.bindsN (ps := p_Plan_lay_list) (fun _ _ _ _ _ _ us hl => match us, hl with | [_, _, _, _, _], _ => rfl), ok_lay_list Fd_Plan_lay_list T (by decide) Z4 R3⟩⟩
  have R4 : MDef P w K mg base CX0 22 (He.ga K "Plan") "lay_row" p_Plan_lay_row (spLayRow K 4) := ⟨T.c_Plan, ⟨_, fd_Plan_lay_row, He.meth_ok (c.fact 126 (f := .meth "Plan" "lay_row") rfl), Fd_Plan_lay_row.bindsN (ps := p_Plan_lay_row) (fun _ _ _ _ _ _ us hl => match us, hl with | [_, _, _, _, _], _ => rfl), ok_lay_row Fd_Plan_lay_row T (by decide) G_lists_of G_end_within Y4⟩⟩
  have Y5 : MDef P w K mg base CX0 23 (He.ga K "Plan") "lay_list" p_Plan_lay_list (spLayList K 5) := ⟨T.c_Plan, ⟨_, fd_Plan_lay_list, He.meth_ok (c.fact 125 (f := .meth "Plan" "lay_list") rfl), Fd_Plan_lay_list.bindsN (ps := p_Plan_lay_list) (fun _ _ _ _ _ _ us hl => match us, hl with | [_, _, _, _, _], _ => rfl), ok_lay_list Fd_Plan_lay_list T (by decide) Z5 R4⟩⟩
  have R5 : MDef P w K mg base CX0 24 (He.ga K "Plan") "lay_row" p_Plan_lay_row (spLayRow K 5) := ⟨T.c_Plan, ⟨_, fd_Plan_lay_row, He.meth_ok (c.fact 126 (f := .meth "Plan" "lay_row") rfl), Fd_Plan_lay_row.bindsN (ps := p_Plan_lay_row) (fun _ _ _ _ _ _ us hl => match us, hl with | [_, _, _, _, _], _ => rfl), ok_lay_row Fd_Plan_lay_row T (by decide) G_lists_of G_end_within Y5⟩⟩
  have Y6 : MDef P w K mg base CX0 25 (He.ga K "Plan") "lay_list" p_Plan_lay_list (spLayList K 6) := ⟨T.c_Plan, ⟨_, fd_Plan_lay_list, He.meth_ok (c.fact 125 (f := .meth "Plan" "lay_list") rfl), Fd_Plan_lay_list.bindsN (ps := p_Plan_lay_list) (fun _ _ _ _ _ _ us hl => match us, hl with | [_, _, _, _, _], _ => rfl), ok_lay_list Fd_Plan_lay_list T (by decide) Z6 R5⟩⟩
  have R6 : MDef P w K mg base CX0 26 (He.ga K "Plan") "lay_row" p_Plan_lay_row (spLayRow K 6) := ⟨T.c_Plan, ⟨_, fd_Plan_lay_row, He.meth_ok (c.fact 126 (f := .meth "Plan" "lay_row") rfl), Fd_Plan_lay_row.bindsN (ps := p_Plan_lay_row) (fun _ _ _ _ _ _ us hl => match us, hl with | [_, _, _, _, _], _ => rfl), ok_lay_row Fd_Plan_lay_row T (by decide) G_lists_of G_end_within Y6⟩⟩
  have Y7 : MDef P w K mg base CX0 27 (He.ga K "Plan") "lay_list" p_Plan_lay_list (spLayList K 7) := ⟨T.c_Plan, ⟨_, fd_Plan_lay_list, He.meth_ok (c.fact 125 (f := .meth "Plan" "lay_list") rfl), Fd_Plan_lay_list.bindsN (ps := p_Plan_lay_list) (fun _ _ _ _ _ _ us hl => match us, hl with | [_, _, _, _, _], _ => rfl), ok_lay_list Fd_Plan_lay_list T (by decide) Z7 R6⟩⟩
  have R7 : MDef P w K mg base CX0 28 (He.ga K "Plan") "lay_row" p_Plan_lay_row (spLayRow K 7) := ⟨T.c_Plan, ⟨_, fd_Plan_lay_row, He.meth_ok (c.fact 126 (f := .meth "Plan" "lay_row") rfl), Fd_Plan_lay_row.bindsN (ps := p_Plan_lay_row) (fun _ _ _ _ _ _ us hl => match us, hl with | [_, _, _, _, _], _ => rfl), ok_lay_row Fd_Plan_lay_row T (by decide) G_lists_of G_end_within Y7⟩⟩
  have Y8 : MDef P w K mg base CX0 29 (He.ga K "Plan") "lay_list" p_Plan_lay_list (spLayList K 8) := ⟨T.c_Plan, ⟨_, fd_Plan_lay_list, He.meth_ok (c.fact 125 (f := .meth "Plan" "lay_list") rfl), Fd_Plan_lay_list.bindsN (ps := p_Plan_lay_list) (fun _ _ _ _ _ _ us hl => match us, hl with | [_, _, _, _, _], _ => rfl), ok_lay_list Fd_Plan_lay_list T (by decide) Z8 R7⟩⟩
  have R8 : MDef P w K mg base CX0 30 (He.ga K "Plan") "lay_row" p_Plan_lay_row (spLayRow K 8) := ⟨T.c_Plan, ⟨_, fd_Plan_lay_row, He.meth_ok (c.fact 126 (f := .meth "Plan" "lay_row") rfl), Fd_Plan_lay_row.bindsN (ps := p_Plan_lay_row) (fun _ _ _ _ _ _ us hl => match us, hl with | [_, _, _, _, _], _ => rfl), ok_lay_row Fd_Plan_lay_row T (by decide) G_lists_of G_end_within Y8⟩⟩
  have Y9 : MDef P w K mg base CX0 31 (He.ga K "Plan") "lay_list" p_Plan_lay_list (spLayList K 9) := ⟨T.c_Plan, ⟨_, fd_Plan_lay_list, He.meth_ok (c.fact 125 (f := .meth "Plan" "lay_list") rfl), Fd_Plan_lay_list.bindsN (ps := p_Plan_lay_list) (fun _ _ _ _ _ _ us hl => match us, hl with | [_, _, _, _, _], _ => rfl), ok_lay_list Fd_Plan_lay_list T (by decide) Z9 R8⟩⟩
  have R9 : MDef P w K mg base CX0 32 (He.ga K "Plan") "lay_row" p_Plan_lay_row (spLayRow K 9) := ⟨T.c_Plan, ⟨_, fd_Plan_lay_row, He.meth_ok (c.fact 126 (f := .meth "Plan" "lay_row") rfl), Fd_Plan_lay_row.bindsN (ps := p_Plan_lay_row) (fun _ _ _ _ _ _ us hl => match us, hl with | [_, _, _, _, _], _ => rfl), ok_lay_row Fd_Plan_lay_row T (by decide) G_lists_of G_end_within Y9⟩⟩
  have Y10 : MDef P w K mg base CX0 33 (He.ga K "Plan") "lay_list" p_Plan_lay_list (spLayList K 10) := ⟨T.c_Plan, ⟨_, fd_Plan_lay_list, He.meth_ok (c.fact 125 (f := .meth "Plan" "lay_list") rfl), Fd_Plan_lay_list.bindsN (ps := p_Plan_lay_list) (fun _ _ _ _ _ _ us hl => match us, hl with | [_, _, _, _, _], _ => rfl), ok_lay_list Fd_Plan_lay_list T (by decide) Z10 R9⟩⟩
  have R10 : MDef P w K mg base CX0 34 (He.ga K "Plan") "lay_row" p_Plan_lay_row (spLayRow K 10) := ⟨T.c_Plan, ⟨_, fd_Plan_lay_row, He.meth_ok (c.fact 126 (f := .meth "Plan" "lay_row") rfl), Fd_Plan_lay_row.bindsN (ps := p_Plan_lay_row) (fun _ _ _ _ _ _ us hl => match us, hl with | [_, _, _, _, _], _ => rfl), ok_lay_row Fd_Plan_lay_row T (by decide) G_lists_of G_end_within Y10⟩⟩
  have Y11 : MDef P w K mg base CX0 35 (He.ga K "Plan") "lay_list" p_Plan_lay_list (spLayList K 11) := ⟨T.c_Plan, ⟨_, fd_Plan_lay_list, He.meth_ok (c.fact 125 (f := .meth "Plan" "lay_list") rfl), Fd_Plan_lay_list.bindsN (ps := p_Plan_lay_list) (fun _ _ _ _ _ _ us hl => match us, hl with | [_, _, _, _, _], _ => rfl), ok_lay_list Fd_Plan_lay_list T (by decide) Z11 R10⟩⟩
  have R11 : MDef P w K mg base CX0 36 (He.ga K "Plan") "lay_row" p_Plan_lay_row (spLayRow K 11) := ⟨T.c_Plan, ⟨_, fd_Plan_lay_row, He.meth_ok (c.fact 126 (f := .meth "Plan" "lay_row") rfl), Fd_Plan_lay_row.bindsN (ps := p_Plan_lay_row) (fun _ _ _ _ _ _ us hl => match us, hl with | [_, _, _, _, _], _ => rfl), ok_lay_row Fd_Plan_lay_row T (by decide) G_lists_of G_end_within Y11⟩⟩
  have Y12 : MDef P w K mg base CX0 37 (He.ga K "Plan") "lay_list" p_Plan_lay_list (spLayList K 12) := ⟨T.c_Plan, ⟨_, fd_Plan_lay_list, He.meth_ok (c.fact 125 (f := .meth "Plan" "lay_list") rfl), Fd_Plan_lay_list.bindsN (ps := p_Plan_lay_list) (fun _ _ _ _ _ _ us hl => match us, hl with | [_, _, _, _, _], _ => rfl), ok_lay_list Fd_Plan_lay_list T (by decide) Z12 R11⟩⟩
  have R12 : MDef P w K mg base CX0 38 (He.ga K "Plan") "lay_row" p_Plan_lay_row (spLayRow K 12) := ⟨T.c_Plan, ⟨_, fd_Plan_lay_row, He.meth_ok (c.fact 126 (f := .meth "Plan" "lay_row") rfl), Fd_Plan_lay_row.bindsN (ps := p_Plan_lay_row) (fun _ _ _ _ _ _ us hl => match us, hl with | [_, _, _, _, _], _ => rfl), ok_lay_row Fd_Plan_lay_row T (by decide) G_lists_of G_end_within Y12⟩⟩
  have Y13 : MDef P w K mg base CX0 39 (He.ga K "Plan") "lay_list" p_Plan_lay_list (spLayList K 13) := ⟨T.c_Plan, ⟨_, fd_Plan_lay_list, He.meth_ok (c.fact 125 (f := .meth "Plan" "lay_list") rfl), Fd_Plan_lay_list.bindsN (ps := p_Plan_lay_list) (fun _ _ _ _ _ _ us hl => match us, hl with | [_, _, _, _, _], _ => rfl), ok_lay_list Fd_Plan_lay_list T (by decide) Z13 R12⟩⟩
  have K_Plan : MkA P w K mg base CX0 40 "Plan" (He.ga K "Plan") [] p_Plan___init__ (spPlanInit K 12) := ⟨⟨_, fd_Plan___init__, [], He.glo_ok X G (c.fact 9 (f := .glo "Plan") rfl), He.mkr_ok (c.fact 104 (f := .mkr "Plan") rfl), Fd_Plan___init__.bindsN (ps := p_Plan___init__) (fun _ _ _ _ _ _ us hl => match us, hl with | [_, _], _ => rfl), .nil, ok_plan Fd_Plan___init__ T Y13⟩⟩
  have G_named_in : Def P w K mg base CX0 2 "named_in" p_named_in (spNamedIn K) := ⟨⟨_, fd_named_in, He.glo_ok X G (c.fact 30 (f := .glo "named_in") rfl), Fd_named_in.kp, Fd_named_in.bindsN (ps := p_named_in) (fun _ _ _ _ _ _ us hl => match us, hl with | [_], _ => rfl), ok_named_in Fd_named_in T G_words_named⟩⟩
  have G_check_sizes : Def P w K mg base (L2.CX P w) 3 "check_sizes" p_check_sizes (spSizes K) := ⟨⟨_, fd_check_sizes, He.glo_ok X G (c.fact 31 (f := .glo "check_sizes") rfl), Fd_check_sizes.kp, Fd_check_sizes.bindsN (ps := p_check_sizes) (fun _ _ _ _ _ _ us hl => match us, hl with | [_, _], _ => rfl), ok_check_sizes Fd_check_sizes T IP⟩⟩
  have G_is_entry : Def P w K mg base CX0 3 "is_entry" p_is_entry (spEntry K) := ⟨⟨_, fd_is_entry, He.glo_ok X G (c.fact 29 (f := .glo "is_entry") rfl), Fd_is_entry.kp, Fd_is_entry.bindsN (ps := p_is_entry) (fun _ _ _ _ _ _ us hl => match us, hl with | [_, _], _ => rfl), ok_is_entry Fd_is_entry T G_is_integer G_are_words⟩⟩
  have G_checked_table : Def P w K mg base (L2.CX P w) 4 "checked_table" p_checked_table (spTable K) := ⟨⟨_, fd_checked_table, He.glo_ok X G (c.fact 28 (f := .glo "checked_table") rfl), Fd_checked_table.kp, Fd_checked_table.bindsN (ps := p_checked_table) (fun _ _ _ _ _ _ us hl => match us, hl with | [_, _, _], _ => rfl), ok_checked_table Fd_checked_table T IP G_is_word G_is_entry⟩⟩
  have C_Draft : CFun P w K mg base (L2.CX P w) 42 "Draft" (He.ga K "Draft") "__init__" p_Draft___init__ (spDraft K 12) := ⟨⟨_, fd_Draft___init__, _, He.glo_ok X G (c.fact 7 (f := .glo "Draft") rfl), (drB_ok e.dr).1, (drB_ok e.dr).2, Fd_Draft___init__.kp, Fd_Draft___init__.bindsN (ps := p_Draft___init__) (fun _ _ _ _ _ _ us hl => match us, hl with | [_, _, _, _, _, _], _ => rfl), ok_draft (k0 := 41) Fd_Draft___init__ T (by decide) (by decide) (by decide) (by decide) IP G_checked_table G_are_words K_RowCheck M_check_rows C13 K_Plan G_named_in G_check_sizes⟩⟩
  have dcProgram : DCls K (He.ga K "Program") := ⟨T.c_Program, fun f hf => by
    simp only [List.mem_cons, List.not_mem_nil, or_false] at hf
    rcases hf with rfl | rfl | rfl | rfl | rfl | rfl
    · exact T.n_Program_ask_table
    · exact T.n_Program_signal_table
    · exact T.n_Program_input_words
    · exact T.n_Program_row_list
    · exact T.n_Program_plan
    · exact T.n_Program_name_table⟩
  obtain ⟨F2Program, kbProgram⟩ := kw_Program e.kPr Fd_Program___init__ rfl
  have kcProgram : KwCls P w K mg base 43 "Program" (He.ga K "Program") p_Program___init__ (spProgInit K 12) := ⟨⟨_, fd_Program___init__, T.m_Program, He.mkr_ok (c.fact 113 (f := .mkr "Program") rfl), kbProgram, ok_program F2Program T dcProgram C_Draft⟩⟩
  have K_Source : MkA P w K mg base CX0 1 "Source" (He.ga K "Source") [] p_Source___init__ (spSrcInit K) := ⟨⟨_, fd_Source___init__, [], He.glo_ok X G (c.fact 10 (f := .glo "Source") rfl), He.mkr_ok (c.fact 93 (f := .mkr "Source") rfl), Fd_Source___init__.bindsN (ps := p_Source___init__) (fun _ _ _ _ _ _ us hl => match us, hl with | [_, _], _ => rfl), .nil, ok_src Fd_Source___init__ T⟩⟩
  have M_next_line : MDef P w K mg base CX0 1 (He.ga K "Source") "next_line" p_Source_next_line (spNextLine K) := ⟨T.c_Source, ⟨_, fd_Source_next_line, He.meth_ok (c.fact 127 (f := .meth "Source" "next_line") rfl), Fd_Source_next_line.bindsN (ps := p_Source_next_line) (fun _ _ _ _ _ _ us hl => match us, hl with | [_], _ => rfl), ok_next_line Fd_Source_next_line T⟩⟩
  have M_next_words : MDef P w K mg base CX0 2 (He.ga K "Source") "next_words" p_Source_next_words (spNextWords K) := ⟨T.c_Source, ⟨_, fd_Source_next_words, He.meth_ok (c.fact 128 (f := .meth "Source" "next_words") rfl), Fd_Source_next_words.bindsN (ps := p_Source_next_words) (fun _ _ _ _ _ _ us hl => match us, hl with | [_], _ => rfl), ok_next_words Fd_Source_next_words T M_next_line⟩⟩
  have M_is_at : MDef P w K mg base CX0 2 (He.ga K "Source") "is_at" p_Source_is_at (spIsAt K) := ⟨T.c_Source, ⟨_, fd_Source_is_at, He.meth_ok (c.fact 129 (f := .meth "Source" "is_at") rfl), Fd_Source_is_at.bindsN (ps := p_Source_is_at) (fun _ _ _ _ _ _ us hl => match us, hl with | [_, _], _ => rfl), ok_is_at Fd_Source_is_at T M_next_line⟩⟩
  have M_go_on : MDef P w K mg base (L2.CX P w) 3 (He.ga K "Source") "go_on" p_Source_go_on (spGoOn K) := ⟨T.c_Source, ⟨_, fd_Source_go_on, He.meth_ok (c.fact 130 (f := .meth "Source" "go_on") rfl), Fd_Source_go_on.bindsN (ps := p_Source_go_on) (fun _ _ _ _ _ _ us hl => match us, hl with | [_, _], _ => rfl), ok_go_on Fd_Source_go_on T IT⟩⟩
  have G_are_some : Def P w K mg base CX0 2 "are_some" p_are_some (spAreSome K) := ⟨⟨_, fd_are_some, He.glo_ok X G (c.fact 35 (f := .glo "are_some") rfl), Fd_are_some.kp, Fd_are_some.bindsN (ps := p_are_some) (fun _ _ _ _ _ _ us hl => match us, hl with | [_], _ => rfl), ok_are_some Fd_are_some T G_is_word⟩⟩
  have G_parts_of : Def P w K mg base CX0 3 "parts_of" p_parts_of (spPartsOf K) := ⟨⟨_, fd_parts_of, He.glo_ok X G (c.fact 38 (f := .glo "parts_of") rfl), Fd_parts_of.kp, Fd_parts_of.bindsN (ps := p_parts_of) (fun _ _ _ _ _ _ us hl => match us, hl with | [_], _ => rfl), ok_parts_of Fd_parts_of T G_are_some⟩⟩
  have G_read_table : Def P w K mg base (L2.CX P w) 3 "read_table" p_read_table (spReadTable K) := ⟨⟨_, fd_read_table, He.glo_ok X G (c.fact 36 (f := .glo "read_table") rfl), Fd_read_table.kp, Fd_read_table.bindsN (ps := p_read_table) (fun _ _ _ _ _ _ us hl => match us, hl with | [_, _], _ => rfl), ok_read_table Fd_read_table T M_is_at M_next_words⟩⟩
  have Lr0 : Def P w K mg base (L2.CX P w) 3 "read_list" p_read_list (spReadList K 0) := ⟨⟨_, fd_read_list, He.glo_ok X G (c.fact 37 (f := .glo "read_list") rfl), Fd_read_list.kp, Fd_read_list.bindsN (ps := p_read_list) (fun _ _ _ _ _ _ us hl => match us, hl with | [_, _], _ => rfl), ok_read_list0 Fd_read_list T M_is_at⟩⟩
  have I0 : Def P w K mg base (L2.CX P w) 4 "read_inner" p_read_inner (spReadInner K 0) := ⟨⟨_, fd_read_inner, He.glo_ok X G (c.fact 39 (f := .glo "read_inner") rfl), Fd_read_inner.kp, Fd_read_inner.bindsN (ps := p_read_inner) (fun _ _ _ _ _ _ us hl => match us, hl with | [_, _, _], _ => rfl), ok_read_inner Fd_read_inner T Lr0⟩⟩
  have Lr1 : Def P w K mg base (L2.CX P w) 5 "read_list" p_read_list (spReadList K 1) := ⟨⟨_, fd_read_list, He.glo_ok X G (c.fact 37 (f := .glo "read_list") rfl), Fd_read_list.kp, Fd_read_list.bindsN (ps := p_read_list) (fun _ _ _ _ _ _ us hl => match us, hl with | [_, _], _ => rfl), ok_read_list Fd_read_list T (by decide) M_is_at M_next_words M_go_on G_parts_of I0⟩⟩
  have I1 : Def P w K mg base (L2.CX P w) 6 "read_inner" p_read_inner (spReadInner K 1) := ⟨⟨_, fd_read_inner, He.glo_ok X G (c.fact 39 (f := .glo "read_inner") rfl), Fd_read_inner.kp, Fd_read_inner.bindsN (ps := p_read_inner) (fun _ _ _ _ _ _ us hl => match us, hl with | [_, _, _], _ => rfl), ok_read_inner Fd_read_inner T Lr1⟩⟩
  have Lr2 : Def P w K mg base (L2.CX P w) 7 "read_list" p_read_list (spReadList K 2) := ⟨⟨_, fd_read_list, He.glo_ok X G (c.fact 37 (f := .glo "read_list") rfl), Fd_read_list.kp, Fd_read_list.bindsN (ps := p_read_list) (fun _ _ _ _ _ _ us hl => match us, hl with | [_, _], _ => rfl), ok_read_list Fd_read_list T (by decide) M_is_at M_next_words M_go_on G_parts_of I1⟩⟩
  have I2 : Def P w K mg base (L2.CX P w) 8 "read_inner" p_read_inner (spReadInner K 2) := ⟨⟨_, fd_read_inner, He.glo_ok X G (c.fact 39 (f := .glo "read_inner") rfl), Fd_read_inner.kp, Fd_read_inner.bindsN (ps := p_read_inner) (fun _ _ _ _ _ _ us hl => match us, hl with | [_, _, _], _ => rfl), ok_read_inner Fd_read_inner T Lr2⟩⟩
  have Lr3 : Def P w K mg base (L2.CX P w) 9 "read_list" p_read_list (spReadList K 3) := ⟨⟨_, fd_read_list, He.glo_ok X G (c.fact 37 (f := .glo "read_list") rfl), Fd_read_list.kp, Fd_read_list.bindsN (ps := p_read_list) (fun _ _ _ _ _ _ us hl => match us, hl with | [_, _], _ => rfl), ok_read_list Fd_read_list T (by decide) M_is_at M_next_words M_go_on G_parts_of I2⟩⟩
  have I3 : Def P w K mg base (L2.CX P w) 10 "read_inner" p_read_inner (spReadInner K 3) := ⟨⟨_, fd_read_inner, He.glo_ok X G (c.fact 39 (f := .glo "read_inner") rfl), Fd_read_inner.kp, Fd_read_inner.bindsN (ps := p_read_inner) (fun _ _ _ _ _ _ us hl => match us, hl with | [_, _, _], _ => rfl), ok_read_inner Fd_read_inner T Lr3⟩⟩
  have Lr4 : Def P w K mg base (L2.CX P w) 11 "read_list" p_read_list (spReadList K 4) := ⟨⟨_, fd_read_list, He.glo_ok X G (c.fact 37 (f := .glo "read_list") rfl), Fd_read_list.kp, Fd_read_list.bindsN (ps := p_read_list) (fun _ _ _ _ _ _ us hl => match us, hl with | [_, _], _ => rfl), ok_read_list Fd_read_list T (by decide) M_is_at M_next_words M_go_on G_parts_of I3⟩⟩
  have I4 : Def P w K mg base (L2.CX P w) 12 "read_inner" p_read_inner (spReadInner K 4) := ⟨⟨_, fd_read_inner, He.glo_ok X G (c.fact 39 (f := .glo "read_inner") rfl), Fd_read_inner.kp, Fd_read_inner.bindsN (ps := p_read_inner) (fun _ _ _ _ _ _ us hl => match us, hl with | [_, _, _], _ => rfl), ok_read_inner Fd_read_inner T Lr4⟩⟩
  have Lr5 : Def P w K mg base (L2.CX P w) 13 "read_list" p_read_list (spReadList K 5) := ⟨⟨_, fd_read_list, He.glo_ok X G (c.fact 37 (f := .glo "read_list") rfl), Fd_read_list.kp, Fd_read_list.bindsN (ps := p_read_list) (fun _ _ _ _ _ _ us hl => match us, hl with | [_, _], _ => rfl), ok_read_list Fd_read_list T (by decide) M_is_at M_next_words M_go_on G_parts_of I4⟩⟩
  have I5 : Def P w K mg base (L2.CX P w) 14 "read_inner" p_read_inner (spReadInner K 5) := ⟨⟨_, fd_read_inner, He.glo_ok X G (c.fact 39 (f := .glo "read_inner") rfl), Fd_read_inner.kp, Fd_read_inner.bindsN (ps := p_read_inner) (fun _ _ _ _ _ _ us hl => match us, hl with | [_, _, _], _ => rfl), ok_read_inner Fd_read_inner T Lr5⟩⟩
  have Lr6 : Def P w K mg base (L2.CX P w) 15 "read_list" p_read_list (spReadList K 6) := ⟨⟨_, fd_read_list, He.glo_ok X G (c.fact 37 (f := .glo "read_list") rfl), Fd_read_list.kp, Fd_read_list.bindsN (ps := p_read_list) (fun _ _ _ _ _ _ us hl => match us, hl with | [_, _], _ => rfl), ok_read_list Fd_read_list T (by decide) M_is_at M_next_words M_go_on G_parts_of I5⟩⟩
  have I6 : Def P w K mg base (L2.CX P w) 16 "read_inner" p_read_inner (spReadInner K 6) := ⟨⟨_, fd_read_inner, He.glo_ok X G (c.fact 39 (f := .glo "read_inner") rfl), Fd_read_inner.kp, Fd_read_inner.bindsN (ps := p_read_inner) (fun _ _ _ _ _ _ us hl => match us, hl with | [_, _, _], _ => rfl), ok_read_inner Fd_read_inner T Lr6⟩⟩
  have Lr7 : Def P w K mg base (L2.CX P w) 17 "read_list" p_read_list (spReadList K 7) := ⟨⟨_, fd_read_list, He.glo_ok X G (c.fact 37 (f := .glo "read_list") rfl), Fd_read_list.kp, Fd_read_list.bindsN (ps := p_read_list) (fun _ _ _ _ _ _ us hl => match us, hl with | [_, _], _ => rfl), ok_read_list Fd_read_list T (by decide) M_is_at M_next_words M_go_on G_parts_of I6⟩⟩
  have I7 : Def P w K mg base (L2.CX P w) 18 "read_inner" p_read_inner (spReadInner K 7) := ⟨⟨_, fd_read_inner, He.glo_ok X G (c.fact 39 (f := .glo "read_inner") rfl), Fd_read_inner.kp, Fd_read_inner.bindsN (ps := p_read_inner) (fun _ _ _ _ _ _ us hl => match us, hl with | [_, _, _], _ => rfl), ok_read_inner Fd_read_inner T Lr7⟩⟩
  have Lr8 : Def P w K mg base (L2.CX P w) 19 "read_list" p_read_list (spReadList K 8) := ⟨⟨_, fd_read_list, He.glo_ok X G (c.fact 37 (f := .glo "read_list") rfl), Fd_read_list.kp, Fd_read_list.bindsN (ps := p_read_list) (fun _ _ _ _ _ _ us hl => match us, hl with | [_, _], _ => rfl), ok_read_list Fd_read_list T (by decide) M_is_at M_next_words M_go_on G_parts_of I7⟩⟩
  have I8 : Def P w K mg base (L2.CX P w) 20 "read_inner" p_read_inner (spReadInner K 8) := ⟨⟨_, fd_read_inner, He.glo_ok X G (c.fact 39 (f := .glo "read_inner") rfl), Fd_read_inner.kp, Fd_read_inner.bindsN (ps := p_read_inner) (fun _ _ _ _ _ _ us hl => match us, hl with | [_, _, _], _ => rfl), ok_read_inner Fd_read_inner T Lr8⟩⟩
  have Lr9 : Def P w K mg base (L2.CX P w) 21 "read_list" p_read_list (spReadList K 9) := ⟨⟨_, fd_read_list, He.glo_ok X G (c.fact 37 (f := .glo "read_list") rfl), Fd_read_list.kp, Fd_read_list.bindsN (ps := p_read_list) (fun _ _ _ _ _ _ us hl => match us, hl with | [_, _], _ => rfl), ok_read_list Fd_read_list T (by decide) M_is_at M_next_words M_go_on G_parts_of I8⟩⟩
  have I9 : Def P w K mg base (L2.CX P w) 22 "read_inner" p_read_inner (spReadInner K 9) := ⟨⟨_, fd_read_inner, He.glo_ok X G (c.fact 39 (f := .glo "read_inner") rfl), Fd_read_inner.kp, Fd_read_inner.bindsN (ps := p_read_inner) (fun _ _ _ _ _ _ us hl => match us, hl with | [_, _, _], _ => rfl), ok_read_inner Fd_read_inner T Lr9⟩⟩
  have Lr10 : Def P w K mg base (L2.CX P w) 23 "read_list" p_read_list (spReadList K 10) := ⟨⟨_, fd_read_list, He.glo_ok X G (c.fact 37 (f := .glo "read_list") rfl), Fd_read_list.kp, Fd_read_list.bindsN (ps := p_read_list) (fun _ _ _ _ _ _ us hl => match us, hl with | [_, _], _ => rfl), ok_read_list Fd_read_list T (by decide) M_is_at M_next_words M_go_on G_parts_of I9⟩⟩
  have I10 : Def P w K mg base (L2.CX P w) 24 "read_inner" p_read_inner (spReadInner K 10) := ⟨⟨_, fd_read_inner, He.glo_ok X G (c.fact 39 (f := .glo "read_inner") rfl), Fd_read_inner.kp, Fd_read_inner.bindsN (ps := p_read_inner) (fun _ _ _ _ _ _ us hl => match us, hl with | [_, _, _], _ => rfl), ok_read_inner Fd_read_inner T Lr10⟩⟩
  have Lr11 : Def P w K mg base (L2.CX P w) 25 "read_list" p_read_list (spReadList K 11) := ⟨⟨_, fd_read_list, He.glo_ok X G (c.fact 37 (f := .glo "read_list") rfl), Fd_read_list.kp, Fd_read_list.bindsN (ps := p_read_list) (fun _ _ _ _ _ _ us hl => match us, hl with | [_, _], _ => rfl), ok_read_list Fd_read_list T (by decide) M_is_at M_next_words M_go_on G_parts_of I10⟩⟩
  have I11 : Def P w K mg base (L2.CX P w) 26 "read_inner" p_read_inner (spReadInner K 11) := ⟨⟨_, fd_read_inner, He.glo_ok X G (c.fact 39 (f := .glo "read_inner") rfl), Fd_read_inner.kp, Fd_read_inner.bindsN (ps := p_read_inner) (fun _ _ _ _ _ _ us hl => match us, hl with | [_, _, _], _ => rfl), ok_read_inner Fd_read_inner T Lr11⟩⟩
  have Lr12 : Def P w K mg base (L2.CX P w) 27 "read_list" p_read_list (spReadList K 12) := ⟨⟨_, fd_read_list, He.glo_ok X G (c.fact 37 (f := .glo "read_list") rfl), Fd_read_list.kp, Fd_read_list.bindsN (ps := p_read_list) (fun _ _ _ _ _ _ us hl => match us, hl with | [_, _], _ => rfl), ok_read_list Fd_read_list T (by decide) M_is_at M_next_words M_go_on G_parts_of I11⟩⟩
  have G_read_program : Def P w K mg base (L2.CX P w) 45 "read_program" p_read_program (spReadProg K) := ⟨⟨_, fd_read_program, He.glo_ok X G (c.fact 34 (f := .glo "read_program") rfl), Fd_read_program.kp, Fd_read_program.bindsN (ps := p_read_program) (fun _ _ _ _ _ _ us hl => match us, hl with | [_], _ => rfl), ok_read_program (kl := 44) Fd_read_program T (by decide) (by decide) (by decide) IA IT K_Source M_is_at M_next_line M_next_words M_go_on G_are_some G_read_table Lr12 kcProgram⟩⟩
  have G_cut : Def P w K mg base (L2.CX P w) 3 "cut" p_cut (spCut K) := ⟨⟨_, fd_cut, He.glo_ok X G (c.fact 32 (f := .glo "cut") rfl), Fd_cut.kp, Fd_cut.bindsN (ps := p_cut) (fun _ _ _ _ _ _ us hl => match us, hl with | [_], _ => rfl), ok_cut Fd_cut T IH⟩⟩
  have G_program_text : Def P w K mg base (L2.CX P w) 3 "program_text" p_program_text (spProgText K) := ⟨⟨_, fd_program_text, He.glo_ok X G (c.fact 33 (f := .glo "program_text") rfl), Fd_program_text.kp, Fd_program_text.bindsN (ps := p_program_text) (fun _ _ _ _ _ _ us hl => match us, hl with | [_], _ => rfl), ok_program_text Fd_program_text T IA⟩⟩
  have G_fits_word : Def P w K mg base CX0 2 "fits_word" p_fits_word (spFitsWord K) := ⟨⟨_, fd_fits_word, He.glo_ok X G (c.fact 43 (f := .glo "fits_word") rfl), Fd_fits_word.kp, Fd_fits_word.bindsN (ps := p_fits_word) (fun _ _ _ _ _ _ us hl => match us, hl with | [_, _], _ => rfl), ok_fits_word Fd_fits_word T G_is_word⟩⟩
  have G_history_text : Def P w K mg base (L2.CX P w) 4 "history_text" p_history_text (spCut K) := ⟨⟨_, fd_history_text, He.glo_ok X G (c.fact 40 (f := .glo "history_text") rfl), Fd_history_text.kp, Fd_history_text.bindsN (ps := p_history_text) (fun _ _ _ _ _ _ us hl => match us, hl with | [_], _ => rfl), ok_history_text Fd_history_text T G_cut⟩⟩
  have G_token_of : Def P w K mg base CX0 3 "token_of" p_token_of (spTokenOf K) := ⟨⟨_, fd_token_of, He.glo_ok X G (c.fact 42 (f := .glo "token_of") rfl), Fd_token_of.kp, Fd_token_of.bindsN (ps := p_token_of) (fun _ _ _ _ _ _ us hl => match us, hl with | [_], _ => rfl), ok_token_of Fd_token_of T G_fits_word⟩⟩
  have G_read_history : Def P w K mg base (L2.CX P w) 4 "read_history" p_read_history (spReadHist K) := ⟨⟨_, fd_read_history, He.glo_ok X G (c.fact 41 (f := .glo "read_history") rfl), Fd_read_history.kp, Fd_read_history.bindsN (ps := p_read_history) (fun _ _ _ _ _ _ us hl => match us, hl with | [_], _ => rfl), ok_read_history Fd_read_history T IA IT G_token_of G_cut⟩⟩
  have G__law_pool : Def P w K mg base CX0 1 "_law_pool" p__law_pool (spPool K) := ⟨⟨_, fd__law_pool, He.glo_ok X G (c.fact 44 (f := .glo "_law_pool") rfl), Fd__law_pool.kp, Fd__law_pool.bindsN (ps := p__law_pool) (fun _ _ _ _ _ _ us hl => match us, hl with | [_, _], _ => rfl), ok_pool Fd__law_pool T.b_int T.b_len⟩⟩
  have G__law_draw : Def P w K mg base CX0 1 "_law_draw" p__law_draw spDraw := ⟨⟨_, fd__law_draw, He.glo_ok X G (c.fact 45 (f := .glo "_law_draw") rfl), Fd__law_draw.kp, Fd__law_draw.bindsN (ps := p__law_draw) (fun _ _ _ _ _ _ us hl => match us, hl with | [_, _], _ => rfl), ok_draw Fd__law_draw T.b_int⟩⟩
  have G__law_item : Def P w K mg base CX0 2 "_law_item" p__law_item (spItem K) := ⟨⟨_, fd__law_item, He.glo_ok X G (c.fact 46 (f := .glo "_law_item") rfl), Fd__law_item.kp, Fd__law_item.bindsN (ps := p__law_item) (fun _ _ _ _ _ _ us hl => match us, hl with | [_, _], _ => rfl), ok_item Fd__law_item T G__law_draw⟩⟩
  have G__law_nested : Def P w K mg base CX0 2 "_law_nested" p__law_nested (spNested K) := ⟨⟨_, fd__law_nested, He.glo_ok X G (c.fact 48 (f := .glo "_law_nested") rfl), Fd__law_nested.kp, Fd__law_nested.bindsN (ps := p__law_nested) (fun _ _ _ _ _ _ us hl => match us, hl with | [_, _], _ => rfl), ok_nested Fd__law_nested T G__law_draw⟩⟩
  have G__law_nested_due : Def P w K mg base CX0 1 "_law_nested_due" p__law_nested_due (spDue K) := ⟨⟨_, fd__law_nested_due, He.glo_ok X G (c.fact 49 (f := .glo "_law_nested_due") rfl), Fd__law_nested_due.kp, Fd__law_nested_due.bindsN (ps := p__law_nested_due) (fun _ _ _ _ _ _ us hl => match us, hl with | [_, _, _], _ => rfl), ok_due Fd__law_nested_due T⟩⟩
  have xc : ∀ {C : Addr}, XfC K C → XcF K C → ExcC K C := fun x y => ⟨x.ga, x.gg, x.exC, x.hdC, y.ha, y.hn, y.ht, y.hm⟩
  have EH : ErrH K mg := { xfA := e.xfIA, xfH := e.xfIH, xfT := e.xfIT, xfP := e.xfIP, xcA := xc e.xfIA e.xcIA, xcH := xc e.xfIH e.xcIH, xcT := xc e.xfIT e.xcIT, xcP := xc e.xfIP e.xcIP, gA := He.glo_ok X G (c.fact 3 (f := .glo "InvalidArgument") rfl), gH := He.glo_ok X G (c.fact 1 (f := .glo "InvalidHistory") rfl), gT := He.glo_ok X G (c.fact 2 (f := .glo "InvalidText") rfl), gP := He.glo_ok X G (c.fact 0 (f := .glo "InvalidProgram") rfl), gR := He.glo_ok X G (c.fact 4 (f := .glo "RunError") rfl), gI := He.glo_ok X G (c.fact 5 (f := .glo "InputError") rfl), nA := He.noat_ok (c.fact 70 (f := .noat "InvalidArgument" "part") rfl), nH := He.noat_ok (c.fact 68 (f := .noat "InvalidHistory" "at") rfl), nT := He.noat_ok (c.fact 69 (f := .noat "InvalidText" "line") rfl), nP1 := He.noat_ok (c.fact 66 (f := .noat "InvalidProgram" "part") rfl), nP2 := He.noat_ok (c.fact 67 (f := .noat "InvalidProgram" "path") rfl), eAA := e.eAA, eHA := e.eHA, eHH := e.eHH, eTA := e.eTA, eTH := e.eTH, eTT := e.eTT, ePA := e.ePA, ePH := e.ePH, ePT := e.ePT, ePP := e.ePP, kAR := e.kAR, kAT := e.kAT, kHI := e.kHI, kHT := e.kHT, kTI := e.kTI, kTR := e.kTR, kPI := e.kPI }
  have G__law_call : Def P w K mg base CX0 46 "_law_call" p__law_call (spCallT K) := ⟨⟨_, fd__law_call, He.glo_ok X G (c.fact 47 (f := .glo "_law_call") rfl), Fd__law_call.kp, Fd__law_call.bindsN (ps := p__law_call) (fun _ _ _ _ _ _ us hl => match us, hl with | [_, _], _ => rfl), ok_call (kp := 45) Fd__law_call T EH (by decide) G_program_text G_read_program G_read_history G_history_text⟩⟩
  exact ok_law (kp := 45) Fd_law T e.kP (fun H a dx fs ha => .base (.ins ha T.c_Program e.xcPr.ha e.xcPr.hn e.xcPr.ht e.xcPr.hm)) (by unfold PySem.W.kitOne; simp) (by decide) G__law_pool G__law_draw G__law_item G__law_nested G__law_nested_due G__law_call G_read_program
end
end OR
open PySem PySem.W PySem.Calls PyProof.Rows
theorem PySem.Challenge.cw_openruns_k24_text_arguments_holds : PySem.Challenge.rw_openruns_k24_text_arguments.Holds := by
  w_on; o_law
  refine HandSHeadRun.head_any (r := OR.Row0) (q := view OR.Row0.prog [98]) (H := OR.hk) (ob := OR.ob) (M := 12000) (loose := OR.loose) (d := HandSHeadRun.topDef OR.Row0.prog 98) (kwd := []) OR.ob_eq
    (by kernel_rfl) (fun s => by kernel_rfl) OR.run (by kernel_rfl) (by kernel_rfl) (by kernel_rfl) (by rfl) (by first | assumption | decide +kernel) (by decide +kernel) ⟨rfl, rfl, rfl, rfl, rfl, by decide +kernel⟩ ?hw ?hc
  case hw => w_witness2
  case hc =>
    refine L2.walk_ofE (l := PySem.Challenge.rw_openruns_k24_text_arguments) (n := 63) (k := 47) (x := "_law_script") (CX := L2.CX0) rfl (by decide) (by kernel_rfl) ⟨rfl, by decide, by decide⟩ ?F (fun _ _ _ _ z => z)
    intro w mg fa h Y G hmg0
    obtain ⟨K, KX, c⟩ := Y
    have hmg : mg ("law" : PySem.Str) = some (.ref fa) := by
      have e : (HandSHeadRun.topDef OR.Row0.prog 98).name = ("law" : PySem.Str) := by kernel_rfl
      rw [← e]
      exact hmg0
    obtain ⟨fd, hb, hF⟩ := OR.facts (P := (PySem.Challenge.rw_openruns_k24_text_arguments).prog) (w := w) KX G hmg c.more c.t
    exact ⟨K, fd, OR.spLaw K, KX, hb, fun H a ns hl _ hS => ⟨a, ns, rfl, hS, hl, fun _ => rfl⟩, hF⟩
#print axioms PySem.Challenge.cw_openruns_k24_text_arguments_holds
