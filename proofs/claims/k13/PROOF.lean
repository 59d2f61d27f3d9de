import PyProof.Rows.All
import Wide.All
import OpenK.AllK
import Wide.FinOn
import HandS.ForMost
import HandS.Exc
import HandS.ExcInit
import HandS.ExcField
import HandS.IsInst
import HandS.ExcIs
import KE.KExcInit
import KE.KExcIs
import HandS.Wide
import HandS.HeadHook2
import HandS.HeadEnd
import HandS.Head2
import HandS.ListEq
import HandS.Flow
import HandS.Codes
import HandS.Steps
import HandS.HeadHook4
import HandS.TryOnly
import HandS.Zip
import HandS.Walk
import HandS.SetFor
import HandS.More
import HandS.ExcOwn
import HandS.WordsExc
import HandS.Text
import HandS.TupAny
import PySem.Challenge.RW_openruns_k13_ages_and_numbers
set_option Elab.async false
set_option maxRecDepth 100000
set_option maxHeartbeats 4000000
set_option linter.all false
/-! own errors over LookupError: made, stored into, read, asked for their class -/
namespace L2
open PySem PySem.Spec PyProof.Rows
abbrev leTail : List Value :=
  [.type "LookupError", .type "Exception", .type "BaseException", .type "object"]
/-- what the written part says of an own error class -/
structure ErrC (K : PySem.W.Frag) (C : Addr) : Prop where
  ini : PySem.W.excInitIn K C leTail "LookupError.__new__" = true
  ovr : PySem.W.excOver K C leTail = true
  sa : PySem.W.findIn K (.ref C) "__setattr__" = some (some (.builtin "object.__setattr__"))
  ga : PySem.W.findIn K (.ref C) "__getattribute__"
    = some (some (.builtin "BaseException.__getattribute__"))
  gg : PySem.W.findIn K (.ref C) "__getattr__" = some none
  exC : PySem.W.subIn K (.ref C) (.type "BaseException") = some true
  tyC : PySem.W.typeIn K (.ref C) = some (.type "type")
  kC : PySem.W.keepIn K (.ref C) = true
  hdC : PySem.W.hasDictIn K C = true
  ca : PySem.W.findIn K (.ref C) "__class__" = some (some (.builtin "object.__class__"))
  cg : PySem.W.specialIn K (.builtin "object.__class__") "__get__"
    = some (some (.builtin "getset_descriptor.__get__"))
  ct : PySem.W.takesIn K (.builtin "object.__class__") = some true
  cm : PySem.W.mroIn K C (.type "object") = some true
theorem taker_none {K : PySem.W.Frag} {C : Addr} {f : Str}
    (h : PySem.W.findIn K (.ref C) f = some none) : PySem.W.takerIn K C f = some none := NoAttr.taker h
section
variable {prog : Program} {w : World} {A : Around} {R : Result → Shared → Prop} {hp : Heap} {g : Array GenState}
  {d : Drawn} {t : Nat} {os : OsState} {K : PySem.W.Frag} {C x t0 : Addr} {name : Str} {tk : Tok} {v : Value}
/-- object.__setattr__ on a fresh error: its dict is made -/
theorem sa_new (T : ErrC K C) (X : K.In hp)
    (hx : hp.get? x = some { cls := .ref C, data := .fields #[.ref t0, .none, .none, .none, .bool false, .none] })
    (hno : PySem.W.findIn K (.ref C) name = some none)
    (hq : ∀ h' tk' dx, (∀ b o, b ≠ x → hp.get? b = some o → h'.get? b = some o) → hp.objs.size ≤ dx → dx ≠ x →
      h'.get? x = some { cls := .ref C, dict := some dx, data := .fields #[.ref t0, .none, .none, .none, .bool false, .none] } →
      h'.Ns1 dx (fun y => if y = name then some v else none) → R (.ok (.ret .none)) ⟨h', g, d, tk', os⟩) :
    codeAny (model prog w) A (.call (.builtin "object.__setattr__") ⟨[.ref x, .str name tk, v], []⟩) R
      ⟨hp, g, d, t, os⟩ := by
  have J : PySem.W.InstAt hp x { cls := .ref C, data := .fields #[.ref t0, .none, .none, .none, .bool false, .none] } C none :=
    ⟨hx, rfl, rfl, trivial⟩
  have hne : x ≠ hp.objs.size := Nat.ne_of_lt (Heap.lt_size hx)
  obtain ⟨cd, hcd, hdd⟩ := PySem.W.any_some T.hdC
  refine PySem.W.osa_openX PySem.F.store_LookupError X J T.ovr (taker_none hno) fun b => ?_
  have Lc : PySem.W.Looks (model prog w) hp (classData C) cd := PySem.W.looks_clsIn X hcd
  show wpAny _ _ (Builtin.ObjectAttr.storeInOwnDict (.ref x) (.ref C) (.str name tk) name v b) _ _ _
  unfold Builtin.ObjectAttr.storeInOwnDict Builtin.ObjectAttr.ownDictForStores
  repeat (first | with_reducible refine PySem.HandSPX.store_in_new ?_ ?_ | with_reducible refine wpAny_loadPart_at hx ?_ | with_reducible refine Lc.at ?_ | wp_step)
  · exact ⟨_, #[], _, (Heap.get?_update_ne _ _ _ _ hne.symm).trans (Heap.get?_push_at rfl rfl), rfl,
      fun e he => absurd he (by simp), fun _ => rfl⟩
  · intro h1 t1 ns same
    have hx1 := Heap.get?_push_of_some ({ cls := .type "dict", data := .dict #[] } : Obj) hx
    refine hq h1 t1 hp.objs.size (fun c o hc ho => ?_) (Nat.le_refl _) hne.symm ?_ ns
    · rw [same.2 c (Nat.ne_of_lt (Heap.lt_size ho)), Heap.get?_update_ne _ _ _ _ hc]
      exact Heap.get?_push_of_some _ ho
    · rw [same.2 x hne]
      exact Heap.get?_update_self _ hx1 rfl
/-- object.__setattr__ on an error that has its dict -/
theorem sa_old (T : ErrC K C) (X : K.In hp) {dx : Addr} {m0 : Str → Option Value} {nl : List Str}
    (hx : hp.get? x = some { cls := .ref C, dict := some dx, data := .fields #[.ref t0, .none, .none, .none, .bool false, .none] })
    (hns : hp.Ns1 dx m0) (hw : Within m0 nl) (hz : nl.length ≤ 1000)
    (hno : PySem.W.findIn K (.ref C) name = some none)
    (hq : ∀ h' tk', (∀ b o, b ≠ dx → hp.get? b = some o → h'.get? b = some o) →
      h'.Ns1 dx (fun y => if y = name then some v else m0 y) → R (.ok (.ret .none)) ⟨h', g, d, tk', os⟩) :
    codeAny (model prog w) A (.call (.builtin "object.__setattr__") ⟨[.ref x, .str name tk, v], []⟩) R
      ⟨hp, g, d, t, os⟩ := by
  obtain ⟨oD, _, _, hoD, _, _⟩ := hns.count hw
  have J : PySem.W.InstAt hp x { cls := .ref C, dict := some dx, data := .fields #[.ref t0, .none, .none, .none, .bool false, .none] } C (some oD) :=
    ⟨hx, rfl, rfl, hoD⟩
  obtain ⟨cd, hcd, hdd⟩ := PySem.W.any_some T.hdC
  refine PySem.W.osa_openX PySem.F.store_LookupError X J T.ovr (taker_none hno) fun b => ?_
  have Lc : PySem.W.Looks (model prog w) hp (classData C) cd := PySem.W.looks_clsIn X hcd
  show wpAny _ _ (Builtin.ObjectAttr.storeInOwnDict (.ref x) (.ref C) (.str name tk) name v b) _ _ _
  unfold Builtin.ObjectAttr.storeInOwnDict Builtin.ObjectAttr.ownDictForStores
  repeat (first | with_reducible refine PySem.OEX.store_in_old hns hw hz ?_ | with_reducible refine wpAny_loadPart_at hx ?_ | with_reducible refine Lc.at ?_ | wp_step)
  intro h1 t1 ns same
  exact hq h1 t1 (fun c o hc ho => (same.2 c hc).trans ho) ns
end
end L2

set_option Elab.async false
set_option maxRecDepth 100000
set_option maxHeartbeats 4000000
set_option linter.all false
namespace L2
open PySem PySem.Spec PySem.HandSPX
section
variable {M : Model} {A : Around} {E : Value → Shared → Prop} {h : Heap} {g : Array GenState} {d : Drawn} {t : Nat} {os : OsState}
variable {nm q : Str} {C N : Addr} {bs bm bmB : List Value} {hdct : Bool} {sn : List Str} {sub : List Value} {ab : Bool} {col : Option Bool} {dd : Option Addr} {k0 k1 k2 k3 k5 : Option Value} {B newId initId : String}
theorem check_new_kw (F : ExcBaseFacts B newId initId bmB) (hT : ∀ X : String, bm.contains (.type X) = bmB.contains (.type X)) {rest : List Value} {kw : List (Str × Value)} {Q : Unit → Shared → Prop}
    (hC : h.get? C = some (excClassObj nm q C N bs bm hdct sn sub ab col dd k0 k1 k2 k3 k5 newId)) (hq : Q () ⟨h, g, d, t, os⟩) :
    wpAny M A (checkBuiltinCall newId ⟨.ref C :: rest, kw⟩) Q E ⟨h, g, d, t, os⟩ := by
  have hB : (Value.ref C :: bm).contains (.type B) = true := by rw [List.contains_cons, hT, F.hasB, Bool.or_true]
  have hS := F.noStar
  simp only [checkBuiltinCall, F.newKind, F.newSplit, F.newRow]
  repeat (first | refine wpAny_loadPart_at hC ?_ | (refine wpAny_isSubtype_exc hC ?_; rw [hB]) | refine wpAny_staticBase_exc hC ?_ | refine wpAny_madeBy_exc hC ?_ | simp only [bne_self_eq_false, Bool.false_eq_true, if_false] | wp_step)
  exact hq
end
section
variable {prog : Program} {w : World} {A : Around} {E : Value → Shared → Prop} {R : Result → Shared → Prop} {h : Heap} {g : Array GenState} {d : Drawn} {t : Nat} {os : OsState}
variable {nm q : Str} {C N : Addr} {bs bm bmB : List Value} {hdct : Bool} {sn : List Str} {sub : List Value} {ab : Bool} {col : Option Bool} {dd : Option Addr} {k0 k1 k2 k3 k5 : Option Value} {B newId initId : String}
theorem new_kw (F : ExcBaseFacts B newId initId bmB) (hT : ∀ X : String, bm.contains (.type X) = bmB.contains (.type X)) {rest : List Value} {kw : List (Str × Value)}
    (hC : h.get? C = some (excClassObj nm q C N bs bm hdct sn sub ab col dd k0 k1 k2 k3 k5 newId)) (hr : rest.length ≤ sizeLine)
    (hq : R (.ok (.ret (.ref (h.objs.size + 1)))) ⟨(h.push (PySem.W.kdv_tup rest)).push (excO C h.objs.size), g, d, t, os⟩) :
    codeAny (model prog w) A (.builtin newId ⟨.ref C :: rest, kw⟩) R ⟨h, g, d, t, os⟩ := by
  have hE := F.ends
  have hB : (Value.ref C :: bm).contains (.type B) = true := by rw [List.contains_cons, hT, F.hasB, Bool.or_true]
  have hA : (Value.ref C :: bm).contains (.type "AttributeError") = false := by rw [List.contains_cons, hT, F.noAttr]; rfl
  have hN : (Value.ref C :: bm).contains (.type "NameError") = false := by rw [List.contains_cons, hT, F.noName]; rfl
  refine codeAny_builtinAt F.entry ?_
  unfold Builtin.«BaseException.__new__»
  refine wpAt_bind ?_
  show wpAt _ _ _ (stack >>= _) _ _ _
  refine wpAt_bind (wpAt_stack fun p below => wpAt_of_wpAny ?_)
  wp_walk
  refine wpAt_of_wpAny ?_
  rw [F.owner]
  repeat (first | with_reducible refine wpAny_madeHere_exc F.canon hC ?_ | with_reducible refine wpAny_loadPart_at hC ?_ | (with_reducible refine wpAny_isSubtype_exc hC ?_; first | rw [hB] | rw [hA] | rw [hN]) | wp_step)
  show R _ _
  rw [Heap.size_push]
  exact hq
theorem type_call_kw (F : ExcBaseFacts B newId initId bmB) (hT : ∀ X : String, bm.contains (.type X) = bmB.contains (.type X)) {rest : List Value} {kw : List (Str × Value)} {fI : Addr} {Q : Fin → Shared → Prop}
    (hC : h.get? C = some (excClassObj nm q C N bs bm hdct sn sub ab col dd k0 k1 k2 k3 k5 newId))
    (hi : W.Looks (model prog w) h (typeLookup (.ref C) "__init__") (some (.ref fI))) (hb : ∀ self, W.Looks (model prog w) h (bindSpecial (.ref fI) self) (.ref fI, [self])) (hr : rest.length ≤ sizeLine)
    (hq : codeAny (model prog w) A (.call (.ref fI) ⟨.ref (h.objs.size + 1) :: rest, kw⟩)
      (fun r s' => match r with | .ok (.ret v) => v = .none ∧ Q (.done (.ret (.ref (h.objs.size + 1)))) s' | .ok _ => False | .error e => E e s')
      ⟨(h.push (PySem.W.kdv_tup rest)).push (excO C h.objs.size), g, d, t, os⟩) :
    wpAny (model prog w) A (Builtin.«type.__call__» ⟨.ref C :: rest, kw⟩) Q E ⟨h, g, d, t, os⟩ := by
  repeat (first | with_reducible refine wpAny_loadPart_at hC ?_ | with_reducible refine wpAny_madeBy_exc hC ?_ | wp_step)
  refine codeAny_call_builtin_code (Code.quiet_builtin _ F.quiet) (check_new_kw F hT hC ?_)
  refine new_kw F hT hC hr ?_
  show wpAny _ _ _ _ _ _
  have kp : ∀ b o, h.get? b = some o → ((h.push (PySem.W.kdv_tup rest)).push (excO C h.objs.size)).get? b = some o := fun b o e => Heap.get?_push_of_some _ (Heap.get?_push_of_some _ e)
  have hC1 := kp _ _ hC
  have hx : ((h.push (PySem.W.kdv_tup rest)).push (excO C h.objs.size)).get? (h.objs.size + 1) = some (excO C h.objs.size) := by heap_get
  have hcc : (Value.ref C :: bm).contains (.ref C) = true := by simp
  have i1 := hi.keeps kp
  have b1 := (hb (.ref (h.objs.size + 1))).keeps kp
  unfold isInstance
  repeat (first | with_reducible refine wpAny_loadPart_at hx ?_ | (with_reducible refine wpAny_isSubtype_exc hC1 ?_; rw [hcc]) | wp_step)
  show wpAny _ _ (typeLookup (.ref C) _) _ _ _
  refine i1.at ?_
  refine wpAny_holding (wpAny_bind (b1.at ?_))
  refine wpAny_bind (wpAny_call (codeAny_mono hq fun r s' z => ?_))
  rcases r with e | (v | _ | _ | _) <;> first | exact z | exact z.elim | skip
  obtain ⟨rfl, z⟩ := z
  first
    | exact wpAny_pure (wpAny_pure z)
    | (wp_walk; exact z)
theorem call_kw (F : ExcBaseFacts B newId initId bmB) (hT : ∀ X : String, bm.contains (.type X) = bmB.contains (.type X)) {rest : List Value} {kw : List (Str × Value)} {fI : Addr}
    (hC : h.get? C = some (excClassObj nm q C N bs bm hdct sn sub ab col dd k0 k1 k2 k3 k5 newId))
    (hi : W.Looks (model prog w) h (typeLookup (.ref C) "__init__") (some (.ref fI))) (hb : ∀ self, W.Looks (model prog w) h (bindSpecial (.ref fI) self) (.ref fI, [self])) (hr : rest.length ≤ sizeLine)
    (hq : codeAny (model prog w) (A.under (.builtin "type.__call__" ⟨.ref C :: rest, kw⟩)) (.call (.ref fI) ⟨.ref (h.objs.size + 1) :: rest, kw⟩) (W.InitBack (h.objs.size + 1) R)
      ⟨(h.push (PySem.W.kdv_tup rest)).push (excO C h.objs.size), g, d, t, os⟩) :
    codeAny (model prog w) A (.call (.ref C) ⟨rest, kw⟩) R ⟨h, g, d, t, os⟩ := by
  have f1 := tc_lookup
  have f2 := tc_bind (.ref C)
  have hTy : (⟨h, g, d, t, os⟩ : Shared).TypeIs (.ref C) "type" := ⟨_, hC, rfl⟩
  refine codeAny_of_tree ?_
  show wpAny _ _ (callAny (.ref C) _) _ _ _
  repeat (any_goals (first | assumption | with_reducible refine wpAny_loadPart_at hC ?_ | wp_step))
  refine ⟨rfl, ?_⟩
  refine codeAny_call_builtin_at (Code.quiet_builtin _ (by decide +kernel)) entry_typeCall (wpAny_check_type_call_sub hC (type_call_kw F hT hC hi hb hr ?_))
  refine codeAny_mono hq fun r s' z => ?_
  rcases r with e | (v | _ | _ | _) <;> exact z
end
end L2

set_option Elab.async false
set_option maxRecDepth 100000
set_option maxHeartbeats 4000000
set_option linter.all false
namespace L2
open PySem PySem.Spec PyProof.Rows
section
variable {X : Cx} {pins : List (Addr × Obj)} {σ : St} {H : Hp} {s : Shared} {a C dx : Addr} {f : Str} {y : V} {u : Value}
  {fs : List (Str × V)} {Q : Unit → Shared → Prop} {E : Value → Shared → Prop} {A : Around}
/-- the error at a gets its dict at dx, both tracked -/
theorem swap_un {hp h' : Heap} {ex : List Addr} (fr : List Addr) (hok : HOk X.prog X.w H hp) (e : H a = some (exo a C none)) (dn : hp.objs.size ≤ dx)
    (kp : ∀ b o, b ≠ a → hp.get? b = some o → h'.get? b = some o) (ha : ∃ o, h'.get? a = some o) :
    Un fr ex H (upd (upd H dx (exd dx fs)) a (exo a C (some dx))) hp h' := by
  have nd : H dx = none := hok.fresh dn
  have old : ∀ {b : Addr} {o : Obj}, hp.get? b = some o → b ≠ dx := fun z => Nat.ne_of_lt (Nat.lt_of_lt_of_le (Heap.lt_size z) dn)
  have na : ∀ {b : Addr}, H b = none → b ≠ a := fun n z => by rw [z, e] at n; cases n
  have kind : ∀ {b : Addr} {o : HO}, H b = some o → exo a C none ≠ o → upd (upd H dx (exd dx fs)) a (exo a C (some dx)) b = some o := fun {b o} z d => by
    rw [upd_ne (at_ne e z d), upd_ne (ne_of_none z nd)]
    exact z
  exact {
    keep := fun b o z n _ _ => kp b o (na n) z
    slot := fun b o z n _ _ => ⟨o.slots, kp b o (na n) z⟩
    free := fun b o z n _ => by
      rw [upd_ne (na n), upd_ne (old z)]
      exact n
    there := fun b o z _ => by
      rcases Decidable.em (b = a) with q | q
      · rw [q]; exact ha
      · exact ⟨o, kp b o q z⟩
    tups := fun b xs z => kind z exo_tup
    frzs := fun b o v z => kind z exo_frz
    tbls := fun b ps z => ⟨#[], by rw [kind z exo_tbl]; simp⟩ }
theorem swap_ok {hp h' : Heap} {t1 : Addr} {mA : Str → Option Value} (hok : HOk X.prog X.w H hp) (e : H a = some (exo a C none)) (dn : hp.objs.size ≤ dx)
    (kp : ∀ b o, b ≠ a → hp.get? b = some o → h'.get? b = some o)
    (ha : h'.get? a = some { cls := .ref C, dict := some dx, data := .fields #[.ref t1, .none, .none, .none, .bool false, .none] })
    (hn : h'.Ns1 dx mA) (r : ∀ g, RelO (fs.lookup g) (mA g)) : HOk X.prog X.w (upd (upd H dx (exd dx fs)) a (exo a C (some dx))) h' := by
  have nd : H dx = none := hok.fresh dn
  intro b o q
  rcases Decidable.em (b = a) with z | z
  · subst z
    rw [upd_same] at q
    cases q
    exact exo_ok ha
  · rw [upd_ne z] at q
    rcases Decidable.em (b = dx) with z2 | z2
    · subst z2
      rw [upd_same] at q
      cases q
      exact exd_ok hn r
    · rw [upd_ne z2] at q
      have far : ∀ {c : Addr} {u : HO}, H c = some u → exo a C none ≠ u → upd (upd H dx (exd dx fs)) a (exo a C (some dx)) c = some u := fun {c u} k d => by
        rw [upd_ne (at_ne e k d), upd_ne (ne_of_none k nd)]
        exact k
      exact (hok b o q).stay (fun c v hc k => kp c v (by rcases hc with hc | hc; exact hc ▸ z; exact at_ne e hc exo_own) k)
        (fun c hc => far hc exo_own) (fun c xs hc => far hc exo_tup)
/-- self.f = y, the first store -/
theorem put_new (T : ErrC X.K C) (I : Inv X pins σ H s) (e : H a = some (exo a C none)) (hno : PySem.W.findIn X.K (.ref C) f = some none) (ry : RelV y u)
    (h : ∀ dx s', H dx = none → dx ≠ a → Inv X pins σ (upd (upd H dx (exd dx [(f, y)])) a (exo a C (some dx))) s' → Q () s') :
    wpAny (model X.prog X.w) A (setAttr (.ref a) f u) Q E s := by
  obtain ⟨t1, ho⟩ := exo_at I.hok e
  obtain ⟨hp, g, d, t, os⟩ := s
  refine PySem.W.set_plain I.kIn (od := none) ⟨ho, rfl, rfl, trivial⟩ T.sa ?_
  refine sa_new T I.kIn ho hno fun h' tk' dx k dn dne hx hn => ?_
  exact h dx _ (I.hok.fresh dn) dne (I.un (t' := tk') (swap_un _ I.hok e dn k ⟨_, hx⟩) (swap_ok I.hok e dn k hx hn (relO_put (fs := []) ry fun _ => True.intro)))
/-- self.f = y, a further store -/
theorem put_old (T : ErrC X.K C) (I : Inv X pins σ H s) (e : H a = some (exo a C (some dx))) (ed : H dx = some (exd dx fs)) (hl : fs.length ≤ 900)
    (hno : PySem.W.findIn X.K (.ref C) f = some none) (ry : RelV y u)
    (h : ∀ s', Inv X pins σ (upd H dx (exd dx ((f, y) :: fs))) s' → Q () s') : wpAny (model X.prog X.w) A (setAttr (.ref a) f u) Q E s := by
  obtain ⟨t1, ho⟩ := exo_at I.hok e
  obtain ⟨mA, hns, rel⟩ := exd_at I.hok ed
  have hw := within_of rel
  obtain ⟨hp, g, d, t, os⟩ := s
  obtain ⟨oD, _, _, hoD, _, _⟩ := hns.count hw
  refine PySem.W.set_plain I.kIn (od := some oD) ⟨ho, rfl, rfl, hoD⟩ T.sa ?_
  refine sa_old T I.kIn ho hns hw (by rw [List.length_map]; omega) hno fun h' tk' k hn => ?_
  have there : ∃ o, h'.get? dx = some o := let ⟨o, _, _, z, _⟩ := hn; ⟨o, z⟩
  exact h _ (I.write (t' := tk') (x := dx) (e := dx) (by rw [ed]; exact True.intro) (.inl rfl) k there (exd_ok hn (relO_put ry rel)))
end
/-- self.f = e in an own error's __init__ -/
def tPut (K : PySem.W.Frag) (f : Str) (to te : TE) : TS := fun D σ H => te σ H fun y H1 => to σ H1 fun x H2 => ∃ a C : Addr, x = .ref a ∧ ErrC K C ∧
  PySem.W.findIn K (.ref C) f = some none ∧
  ((H2 a = some (exo a C none) ∧ ∀ dx, H2 dx = none → dx ≠ a → D.nx σ (upd (upd H2 dx (exd dx [(f, y)])) a (exo a C (some dx)))) ∨
    ∃ (dx : Addr) (fs : List (Str × V)), H2 a = some (exo a C (some dx)) ∧ H2 dx = some (exd dx fs) ∧ fs.length ≤ 900 ∧ D.nx σ (upd H2 dx (exd dx ((f, y) :: fs))))
theorem ps_put {X : Cx} {o e : Expr} {to te : TE} {f : Str} {p' pos : Pos} (ho : PE X o to) (he : PE X e te)
    (hs : swapsWith e (some (.Attribute o f p')) pos.line X.env = pure false := by rfl) : PS X (.Assign [.Attribute o f p'] e pos) (tPut X.K f to te) := by
  refine ⟨fun pins s σ H D I h => ?_⟩
  refine plainObj_wpAny_Assign_Attribute (thn (he.run pins s σ H _ I h) fun v s1 ⟨y, H1, I1, r1, q1⟩ => thn (ho.run pins s1 σ H1 _ I1 q1) fun u s2 ⟨x, H2, I2, r2, q2⟩ => ?_) hs
  obtain ⟨a, C, ex, T, hno, q⟩ := q2
  subst ex
  obtain rfl : u = Value.ref a := r2
  rcases q with ⟨ea, q⟩ | ⟨dx, fs, ea, ed, hl, q⟩
  · exact put_new T I2 ea hno r1 fun dx s' n ne J => ⟨σ, _, J, q dx n ne⟩
  · exact put_old T I2 ea ed hl hno r1 fun s' J => ⟨σ, _, J, q⟩
/-- what __init__ of an own error promises: its values stand in its dict -/
def spErr (C : Addr) (fns : List Str) : Sp := fun vs H Q _ => ∃ (a : Addr) (ws : List V), vs = .ref a :: ws ∧ ws.length = fns.length ∧ H a = some (exo a C none) ∧
  ∀ dx H', H dx = none → dx ≠ a → H' dx = some (exd dx (fns.zip ws).reverse) → H' a = some (exo a C (some dx)) → (∀ b, b ≠ a → b ≠ dx → H' b = H b) → Q .non H'
/-- C(e, ..), C an own error class: a new error and its dict -/
def tNew (C : Addr) (fns : List Str) (ta : TA) : TE := fun σ H Q => ta σ H fun vs H1 => vs.length = fns.length ∧
  ∀ a dx H', H1 a = none → H1 dx = none → dx ≠ a → H' dx = some (exd dx (fns.zip vs).reverse) → H' a = some (exo a C (some dx)) → (∀ b, b ≠ a → b ≠ dx → H' b = H1 b) → Q (.ref a) H'
section
variable {X : Cx} {CX : CXT} {k : Nat} {fI C : Addr} {fd : FuncData} {fns ps : List Str} {x : Str} {p pos : Pos} {e : Expr} {es : List Expr} {ta : TA}
/-- an own error class whose __init__ keeps that promise -/
structure MkE (X : Cx) (CX : CXT) (k : Nat) (C fI : Addr) (fd : FuncData) (ps fns : List Str) : Prop where
  T : ErrC X.K C
  iC : PySem.W.findIn X.K (.ref C) "__init__" = some (some (.ref fI))
  tI : PySem.W.typeIn X.K (.ref fI) = some (.type "function")
  F : FnOk X.prog X.w X.K X.mg X.base CX k fI fd ps (spErr C fns)
  few : fns.length ≤ 1000
theorem run_new {pins : List (Addr × Obj)} {σ : St} {H : Hp} {s : Shared} {Q : VK} {us all : List Value} {vs : List V} {kw : List (Str × Value)} (M : MkE X CX k C fI fd ps fns) (hr : Room (k + 1) X.A) (hx : Passes CX X E0) (I : Inv X pins σ H s)
    (hb : ∀ (s : Shared) (e : Value), X.K.In s.heap → BindsTo s fd ⟨e :: us, kw⟩ (ps.zip (e :: all))) (hus : us.length ≤ sizeLine)
    (r : Vals vs all) (hl : vs.length = fns.length)
    (h : ∀ a dx H', H a = none → H dx = none → dx ≠ a → H' dx = some (exd dx (fns.zip vs).reverse) → H' a = some (exo a C (some dx)) → (∀ b, b ≠ a → b ≠ dx → H' b = H b) → Q (.ref a) H') :
    wpAny (model X.prog X.w) X.A (call (.ref C) us kw) (EP X pins σ Q) X.xe s := by
  obtain ⟨nm, N, qn, bs, bm, hdct, sn, sub, ab, col, dd, k0, k1, k2, k3, k5, hC, hT⟩ := PySem.W.excInit_of I.kIn M.T.ini
  obtain ⟨hp, g, dr, tk, os⟩ := s
  have hsz : hp.objs.size ≤ hp.objs.size + 1 := Nat.le_succ _
  have hn : H (hp.objs.size + 1) = none := I.hok.fresh hsz
  have kk : ∀ b o, hp.get? b = some o → ((hp.push (PySem.W.kdv_tup us)).push (PySem.HandSPX.excO C hp.objs.size)).get? b = some o := fun b o z => Heap.get?_push_of_some _ (Heap.get?_push_of_some _ z)
  have hget : ((hp.push (PySem.W.kdv_tup us)).push (PySem.HandSPX.excO C hp.objs.size)).get? (hp.objs.size + 1) = some (PySem.HandSPX.excO C hp.objs.size) := by heap_get
  have J : Inv X pins σ (upd H (hp.objs.size + 1) (exo (hp.objs.size + 1) C none)) ⟨(hp.push (PySem.W.kdv_tup us)).push (PySem.HandSPX.excO C hp.objs.size), g, dr, tk, os⟩ :=
    I.laid (t' := tk) kk hsz (exo_ok hget)
  have sp : spErr C fns (.ref (hp.objs.size + 1) :: vs) (upd H (hp.objs.size + 1) (exo (hp.objs.size + 1) C none)) (fun v H2 => v = .non ∧ Q (.ref (hp.objs.size + 1)) H2) E0 := by
    refine ⟨_, vs, rfl, hl, upd_same, fun dx H' nd ne e1 e2 e3 => ⟨rfl, h _ dx H' hn ?_ ne e1 e2 fun b h1 h2 => ?_⟩⟩
    · rw [upd_ne ne] at nd
      exact nd
    · rw [e3 b h1 h2, upd_ne h1]
  have r2 : Vals (V.ref (hp.objs.size + 1) :: vs) (Value.ref (hp.objs.size + 1) :: all) := .cons rfl r
  refine wpAny_call (call_kw PySem.F.excBase_LookupError hT hC (PySem.W.looks_findIn I.kIn M.iC) (fun self => PySem.W.bind_fn I.kIn self M.tI) hus
    (codeAny_mono (M.F.run _ X.stack _ _ ⟨Value.ref (hp.objs.size + 1) :: us, kw⟩ (Value.ref (hp.objs.size + 1) :: all) _ _ E0 (hr.make C us kw) (J.env0.make C us kw) (hb _ _ J.kIn) r2 sp) fun r s' hq' => ?_))
  cases r with
  | error er => exact hx pins σ _ _ er s' J hq'
  | ok fl =>
    cases fl with
    | ret u =>
      obtain ⟨v, H', I3, rv, ev, q3⟩ := J.after hq'
      subst ev
      exact ⟨rv, ⟨V.ref (hp.objs.size + 1), H', I3, rfl, q3⟩⟩
    | next => exact False.elim hq'
    | brk => exact False.elim hq'
    | cont => exact False.elim hq'
theorem pe_new (M : MkE X CX k C fI fd ps fns) (hr : Room (k + 1) X.A) (hg : Gl X x) (hm : X.mg x = some (.ref C)) (hb : Binds X.K fd ps []) (hp : ps.length = fns.length + 1) (hx : Passes CX X E0)
    (ha : PA X (e :: es) ta) (hdb : (x == ("__debug__" : Str)) = false := by decide) (he : starEach (e :: es) X.env = (false, eval e X.env) :: starEach es X.env := by rfl)
    (hpl : (backTo pos (starEach es X.env)).any (·.1) = false := by rfl) : PE X (.Call (.Name x p) (e :: es) [] pos) (tNew C fns ta) := by
  refine ⟨fun pins s σ H Q I h => ?_⟩
  refine wpAny_Call_Name_kw (ld_glob I hg hm ?_ hdb)
  refine PySem.W.callWith_K (h₀ := X.base) I.ok.mod.kin M.T.kC (thn (ha.run pos pins s σ H _ I h) fun us s1 ⟨vs, H1, I1, r, hl, q⟩ => ⟨I1.kIn, ?_⟩) he hpl
  have lu : us.length = fns.length := r.length.symm.trans hl
  refine run_new (all := us) M hr hx I1 (fun s e0 X0 => ?_) (by show us.length ≤ sizeLine; rw [lu, sizeLine_eq]; have := M.few; omega) r hl q
  have b := hb s (e0 :: us) X0 (by rw [List.append_nil, List.length_cons, lu, hp])
  rw [List.append_nil] at b
  exact b
/-- C(k = e, ..): g puts the keywords' values in the order of the parameters -/
theorem pe_newK {kws : List Keyword} {ks : List Str} {tk : TA} {g : {α : Type} → List α → List α} (M : MkE X CX k C fI fd ps fns) (hr : Room (k + 1) X.A) (hg : Gl X x) (hm : X.mg x = some (.ref C))
    (hb : ∀ (s : Shared) (e : Value) (ws : List Value), X.K.In s.heap → ws.length = fns.length → BindsTo s fd ⟨[e], ks.zip ws⟩ (ps.zip (e :: g ws)))
    (hrel : ∀ {zs : List V} {ws : List Value}, Vals zs ws → zs.length = fns.length → Vals (g zs) (g ws)) (hlen : ∀ zs : List V, zs.length = fns.length → (g zs).length = fns.length) (hx : Passes CX X E0)
    (hkw : PK X kws tk) (hall : (backToKw pos (keywordEach kws X.env)).all (·.1.isSome) = true := by rfl) (hks : (backToKw pos (keywordEach kws X.env)).filterMap (·.1) = ks := by rfl)
    (hdb : (x == ("__debug__" : Str)) = false := by decide)
    (hpl : ((backTo pos (starEach [] X.env)).any (·.1) || (backToKw pos (keywordEach kws X.env)).any (·.1.isNone)) = false := by rfl) :
    PE X (.Call (.Name x p) [] kws pos) (tNew C fns fun σ H Q => tk σ H fun zs H1 => zs.length = fns.length ∧ Q (g zs) H1) := by
  refine ⟨fun pins s σ H Q I h => ?_⟩
  refine wpAny_Call_Name_kw (ld_glob I hg hm ?_ hdb)
  refine PySem.W.callWith_KW0 (h₀ := X.base) I.ok.mod.kin M.T.kC hall ?_ hpl
  refine thn (hkw.run pos pins s σ H _ I h) fun ws s2 ⟨zs, H2, I2, rz, lz, l2, q2⟩ => ⟨I2.kIn, ?_⟩
  rw [hks]
  exact run_new (us := []) (all := g ws) M hr hx I2 (fun s e0 X0 => hb s e0 ws X0 (rz.length.symm.trans lz)) (by show 0 ≤ sizeLine; exact Nat.zero_le _) (hrel rz lz) l2 q2
/-- e.f, e an own error -/
def tEf (C : Addr) (f : Str) (te : TE) : TE := fun σ H Q => te σ H fun x H1 => ∃ (a dx : Addr) (fs : List (Str × V)) (v : V), x = .ref a ∧ H1 a = some (exo a C (some dx)) ∧ H1 dx = some (exd dx fs) ∧ fs.lookup f = some v ∧ Q v H1
theorem pe_ef {te : TE} {f : Str} (T : ErrC X.K C) (hno : PySem.W.findIn X.K (.ref C) f = some none) (he : PE X e te)
    (hb : attributeBase e f X.env (eval e X.env) = eval e X.env := by rfl) : PE X (.Attribute e f pos) (tEf C f te) := by
  refine ⟨fun pins s σ H Q I h => ?_⟩
  refine attr_of hb (thn (he.run pins s σ H _ I h) fun u s1 hh => ?_)
  obtain ⟨x, H1, I1, rx, a, dx, fs, v, ex, ea, ed, l, q⟩ := hh
  subst ex
  obtain rfl : u = Value.ref a := rx
  obtain ⟨t1, ho⟩ := exo_at I1.hok ea
  obtain ⟨mA, hns, hr⟩ := exd_at I1.hok ed
  obtain ⟨od, hod, hl⟩ := lookIn_ns hns
  obtain ⟨u, hu, ru⟩ := RelO.some_of (v := v) (o := mA f) (by rw [← l]; exact hr f)
  have J : PySem.W.InstAt s1.heap a _ C (some od) := ⟨ho, rfl, rfl, hod⟩
  exact HandSPX.exc_get I1.kIn J T.ga T.gg T.exC (PySem.W.findObj_own T.hdC hno rfl (by rw [hl, hu])) (handed_of ru) ⟨v, H1, I1.tok _, ru, q⟩
end
end L2

set_option Elab.async false
set_option maxRecDepth 100000
set_option maxHeartbeats 4000000
set_option linter.all false
namespace L2
open PySem PySem.Spec PyProof.Rows
/-! ### isinstance of an own error that has its dict -/
def rIsErr (K : PySem.W.Frag) (C : Addr) : List V → Hp → VK → Prop := fun xs H Q => ∃ (a dx : Addr) (fs : List (Str × V)) (c : V) (u : Value) (b : Bool),
  xs = [.ref a, c] ∧ H a = some (exo a C (some dx)) ∧ H dx = some (exd dx fs) ∧ ClsV c u ∧ PySem.W.kitOne K (.ref C) u = some b ∧ Q (.bl b) H
theorem call_isErr {X : Cx} {C : Addr} (T : ErrC X.K C) : CallR X (.builtin "isinstance") (rIsErr X.K C) := by
  intro pins s σ H xs us Q I r h
  obtain ⟨a, dx, fs, c, u, b, rfl, ea, ed, k, e, q⟩ := h
  obtain ⟨u1, u2, rfl, r1, r2⟩ := vals2 r
  cases (show u1 = Value.ref a from r1)
  have e2 := k.eq r2
  subst e2
  obtain ⟨t1, ho⟩ := exo_at I.hok ea
  obtain ⟨mA, hns, hr⟩ := exd_at I.hok ed
  obtain ⟨od, hod, hl⟩ := lookIn_ns hns
  have J : PySem.W.InstAt s.heap a _ C (some od) := ⟨ho, rfl, rfl, hod⟩
  obtain ⟨cd, hcd, _⟩ := PySem.W.any_some T.hdC
  exact PySem.W.kia_one (PySem.W.kitx_exc (by rw [hcd]; rfl) T.ga T.gg T.exC T.ca T.cg T.ct T.cm) I.kIn J e (fun z => nomatch z) fun tk => ⟨.bl b, H, I.tok tk, rfl, q⟩
/-! ### a power of a greater number -/
def CPowW (i j : Int) : Prop := i.natAbs.log2 < 1000 ∧ 0 ≤ j ∧ j ≤ 1000
theorem op_powW {X : Cx} : OpR X (binaryOp .Pow) (rI CPowW fun i j => .int (i ^ j.toNat)) := opI fun i j t u s Q E hc q => by
  obtain ⟨h1, h2, h3⟩ := hc
  have z : bitsLine = 134217728 := by decide
  have b : Builtin.Int.intBits i ≤ i.natAbs.log2 + 1 := by
    unfold Builtin.Int.intBits
    split <;> omega
  refine pow_int h2 ?_ q
  have c : (Builtin.Int.intBits i : Int) ≤ 1000 := by omega
  have m := Int.mul_le_mul c h3 h2 (by decide : (0 : Int) ≤ 1000)
  exact Int.le_trans m (by decide)
end L2
namespace He
open PySem PySem.Spec PyProof.Rows L2
/-! ### own errors by the head -/
/-- what the head tells of an own error class -/
def errB (K : PySem.W.Frag) (C : Addr) : Bool :=
  PySem.W.excInitIn K C leTail "LookupError.__new__" && (PySem.W.excOver K C leTail &&
  (eqO (PySem.W.findIn K (.ref C) "__setattr__") (some (some (.builtin "object.__setattr__"))) &&
  (eqO (PySem.W.findIn K (.ref C) "__getattribute__") (some (some (.builtin "BaseException.__getattribute__"))) &&
  (eqO (PySem.W.findIn K (.ref C) "__getattr__") (some none) &&
  (decide (PySem.W.subIn K (.ref C) (.type "BaseException") = some true) && (decide (PySem.W.typeIn K (.ref C) = some (.type "type")) &&
  (PySem.W.keepIn K (.ref C) && (PySem.W.hasDictIn K C &&
  (eqO (PySem.W.findIn K (.ref C) "__class__") (some (some (.builtin "object.__class__"))) &&
  (eqO (PySem.W.specialIn K (.builtin "object.__class__") "__get__") (some (some (.builtin "getset_descriptor.__get__"))) &&
  (decide (PySem.W.takesIn K (.builtin "object.__class__") = some true) && decide (PySem.W.mroIn K C (.type "object") = some true))))))))))))
theorem errB_ok {K : PySem.W.Frag} {C : Addr} (h : errB K C = true) : ErrC K C := by
  obtain ⟨h1, h⟩ := ba h
  obtain ⟨h2, h⟩ := ba h
  obtain ⟨h3, h⟩ := ba h
  obtain ⟨h4, h⟩ := ba h
  obtain ⟨h5, h⟩ := ba h
  obtain ⟨h6, h⟩ := ba h
  obtain ⟨h7, h⟩ := ba h
  obtain ⟨h8, h⟩ := ba h
  obtain ⟨h9, h⟩ := ba h
  obtain ⟨h10, h⟩ := ba h
  obtain ⟨h11, h⟩ := ba h
  obtain ⟨h12, h13⟩ := ba h
  exact ⟨h1, h2, eqO_ok h3, eqO_ok h4, eqO_ok h5, of_decide_eq_true h6, of_decide_eq_true h7, h8, h9, eqO_ok h10, eqO_ok h11, of_decide_eq_true h12, of_decide_eq_true h13⟩
/-- .. and of its __init__ -/
def iniB (K : PySem.W.Frag) (C : Addr) : Bool :=
  eqO (PySem.W.findIn K (.ref C) "__init__") (some (some (.ref (ma K C "__init__")))) &&
  decide (PySem.W.typeIn K (.ref (ma K C "__init__")) = some (.type "function"))
end He

set_option Elab.async false
set_option maxRecDepth 100000
set_option maxHeartbeats 4000000
set_option linter.all false
namespace L2
open PySem PySem.Spec PyProof.Rows
/-! ### a def of the module by its name -/
structure Def (P : Program) (w : World) (K : PySem.W.Frag) (mg : Str → Option Value) (base : Heap) (CX : CXT) (k : Nat) (x : Str) (ps : List Str) (sp : Sp) : Prop where
  ex : ∃ (f : Addr) (fd : FuncData), mg x = some (.ref f) ∧ PySem.W.keepIn K (.ref f) = true ∧ Binds K fd ps [] ∧ FnOk P w K mg base CX k f fd ps sp
section
variable {X : Cx} {CX : CXT} {k : Nat} {ps : List Str} {sp : Sp} {E : XK} {x : Str} {p pos : Pos} {e : Expr} {es : List Expr} {t : TA}
theorem pe_ref {a : Addr} {pos : Pos} (hg : Gl X x) (hm : X.mg x = some (.ref a)) (hd : (x == ("__debug__" : Str)) = false := by decide) : PE X (.Name x pos) (tC (.ref a)) :=
  pe_glob hg hm (show RelV (.ref a) (Value.ref a) from rfl) hd
theorem pe_fn (c : Def X.prog X.w X.K X.mg X.base CX k x ps sp) (hr : Room k X.A) (hg : Gl X x) (hx : Passes CX X E) (ha : PA X (e :: es) t)
    (hdb : (x == ("__debug__" : Str)) = false := by decide) (he : starEach (e :: es) X.env = (false, eval e X.env) :: starEach es X.env := by rfl)
    (hpl : (backTo pos (starEach es X.env)).any (·.1) = false := by rfl) : PE X (.Call (.Name x p) (e :: es) [] pos) (tCall sp [] E t) := by
  obtain ⟨f, fd, hm, hk, hb, F⟩ := c.ex
  exact pe_call F hr hg hm hk hb .nil hx ha hdb he hpl
theorem pe_fn0 (c : Def X.prog X.w X.K X.mg X.base CX k x ps sp) (hr : Room k X.A) (hg : Gl X x) (hx : Passes CX X E)
    (hdb : (x == ("__debug__" : Str)) = false := by decide) : PE X (.Call (.Name x p) [] [] pos) (tCall sp [] E tNil) := by
  obtain ⟨f, fd, hm, hk, hb, F⟩ := c.ex
  exact pe_call0 F hr hg hm hk hb .nil hx hdb
end
/-! ### __init__ of an own error: it stores what it is given -/
section
variable {P : Program} {w : World} {K : PySem.W.Frag} {mg : Str → Option Value} {base : Heap}
theorem ok_ini1 {C f : Addr} {fd : FuncData} {fn qual : Str} {params : Arguments} {scope : Scope} {p1 p2 p3 p4 : Pos}
    (F : FunD K "__init__" qual params [.Assign [.Attribute (.Name "self" p1) fn p2] (.Name fn p3) p4] scope [] [] f fd) (S : FnScope ["self", fn] ["self", fn] scope)
    (v1 : scope.names.lookup ("self" : Str) = some NameKind.local) (v2 : scope.names.lookup fn = some NameKind.local) (d1 : (fn == ("__debug__" : Str)) = false) (d2 : (fn == ("__classdict__" : Str)) = false)
    (T : ErrC K C) (hno : PySem.W.findIn K (.ref C) fn = some none) : FnOk P w K mg base CX0 1 f fd ["self", fn] (spErr C [fn]) := by
  refine F.ok S (fun vs H Q E h => ?_) (fun cdv A outer s H vs Q E hr h => ?_)
  · obtain ⟨a, ws, rfl, hl, _⟩ := h
    rw [List.length_cons, hl] <;> rfl
  · obtain ⟨a, ws, rfl, hl, ha, k⟩ := h
    obtain ⟨y, rfl⟩ : ∃ y, ws = [y] := by
      match ws, hl with
      | [y], _ => exact ⟨y, rfl⟩
    refine ⟨_, PSs.nox (pss_one (ps_put (pe_var (i := 0) rfl (.inl v1)) (pe_var (i := 1) rfl (.inl v2) d1 d2))), ?_⟩
    refine ⟨_, rfl, _, rfl, a, C, rfl, T, hno, .inl ⟨ha, fun dx nd ne => ?_⟩⟩
    refine k dx _ nd ne ?_ upd_same fun b h1 h2 => ?_
    · rw [upd_ne ne, upd_same]
      rfl
    · rw [upd_ne h1, upd_ne h2]
theorem ok_ini2 {C f : Addr} {fd : FuncData} {fn gn qual : Str} {params : Arguments} {scope : Scope} {p1 p2 p3 p4 q1 q2 q3 q4 : Pos}
    (F : FunD K "__init__" qual params [.Assign [.Attribute (.Name "self" p1) fn p2] (.Name fn p3) p4, .Assign [.Attribute (.Name "self" q1) gn q2] (.Name gn q3) q4] scope [] [] f fd)
    (S : FnScope ["self", fn, gn] ["self", fn, gn] scope)
    (v1 : scope.names.lookup ("self" : Str) = some NameKind.local) (v2 : scope.names.lookup fn = some NameKind.local) (v3 : scope.names.lookup gn = some NameKind.local)
    (d1 : (fn == ("__debug__" : Str)) = false) (d2 : (fn == ("__classdict__" : Str)) = false) (d3 : (gn == ("__debug__" : Str)) = false) (d4 : (gn == ("__classdict__" : Str)) = false)
    (T : ErrC K C) (hno : PySem.W.findIn K (.ref C) fn = some none) (hno2 : PySem.W.findIn K (.ref C) gn = some none) : FnOk P w K mg base CX0 1 f fd ["self", fn, gn] (spErr C [fn, gn]) := by
  refine F.ok S (fun vs H Q E h => ?_) (fun cdv A outer s H vs Q E hr h => ?_)
  · obtain ⟨a, ws, rfl, hl, _⟩ := h
    rw [List.length_cons, hl] <;> rfl
  · obtain ⟨a, ws, rfl, hl, ha, k⟩ := h
    obtain ⟨y, z, rfl⟩ : ∃ y z, ws = [y, z] := by
      match ws, hl with
      | [y, z], _ => exact ⟨y, z, rfl⟩
    refine ⟨_, PSs.nox (pss_cons (ps_put (pe_var (i := 0) rfl (.inl v1)) (pe_var (i := 1) rfl (.inl v2) d1 d2)) (pss_one (ps_put (pe_var (i := 0) rfl (.inl v1)) (pe_var (i := 2) rfl (.inl v3) d3 d4)))), ?_⟩
    refine ⟨_, rfl, _, rfl, a, C, rfl, T, hno, .inl ⟨ha, fun dx nd ne => ?_⟩⟩
    have e1 : upd (upd H dx (exd dx [(fn, y)])) a (exo a C (some dx)) dx = some (exd dx [(fn, y)]) := by
      rw [upd_ne ne, upd_same]
    refine ⟨_, rfl, _, rfl, a, C, rfl, T, hno2, .inr ⟨dx, _, upd_same, e1, by show 1 ≤ 900; decide, ?_⟩⟩
    refine k dx _ nd ne ?_ ?_ fun b h1 h2 => ?_
    · rw [upd_same]
      rfl
    · rw [upd_ne (Ne.symm ne), upd_same]
    · rw [upd_ne h2, upd_ne h1, upd_ne h2]
end
theorem Same.new {H : Hp} {p : Addr} {o : HO} (h : H p = none) : Same H (upd H p o) := fun b u e => by
  rw [upd_ne (ne_of_none e h)]
  exact e
/-! ### ways joined -/
theorem tchainC {f g : Int → Int → Bool} {c i j : Int} {ta tb : TE} {σ : St} {H : Hp} {Q : VK} (ha : Val ta σ H (.int i)) (hb : Val tb σ H (.int j)) (h : Q (.bl (f i j && g j c)) H) :
    tChain (rI0 fun i j => .bl (f i j)) (rI0 fun i j => .bl (g i j)) ta tb (tC (.int c)) σ H Q := by
  refine ha _ (hb _ ⟨i, j, rfl, rfl, f i j, rfl, ?_⟩)
  cases e : f i j with
  | true =>
    rw [e] at h
    exact iteT ⟨j, c, rfl, rfl, h⟩
  | false =>
    rw [e] at h
    exact iteF h
theorem iteF' {c : Bool} {A B : Prop} (hc : c = false) (h : B) : if c = true then A else B := by
  rw [hc]
  exact iteF h
theorem iteT' {c : Bool} {A B : Prop} (hc : c = true) (h : A) : if c = true then A else B := by
  rw [hc]
  exact iteT h
/-! ### an own error by the name of its class -/
structure ErrDef (P : Program) (w : World) (K : PySem.W.Frag) (mg : Str → Option Value) (base : Heap) (CX : CXT) (k : Nat) (x : Str) (C : Addr) (ps fns : List Str) : Prop where
  ex : ∃ (fI : Addr) (fd : FuncData), mg x = some (.ref C) ∧ ErrC K C ∧ PySem.W.findIn K (.ref C) "__init__" = some (some (.ref fI)) ∧ PySem.W.typeIn K (.ref fI) = some (.type "function") ∧
    Binds K fd ps [] ∧ (∀ (s : Shared) (e : Value) (ws : List Value), K.In s.heap → ws.length = fns.length → BindsTo s fd ⟨[e], fns.reverse.zip ws⟩ (ps.zip (e :: ws.reverse))) ∧
    FnOk P w K mg base CX k fI fd ps (spErr C fns) ∧ fns.length ≤ 1000 ∧ ps.length = fns.length + 1
section
variable {X : Cx} {CX : CXT} {k : Nat} {C : Addr} {ps fns : List Str} {x : Str} {p pos : Pos} {e : Expr} {es : List Expr} {ta : TA}
theorem pe_err (c : ErrDef X.prog X.w X.K X.mg X.base CX k x C ps fns) (hr : Room (k + 1) X.A) (hg : Gl X x) (hx : Passes CX X E0) (ha : PA X (e :: es) ta)
    (hdb : (x == ("__debug__" : Str)) = false := by decide) (he : starEach (e :: es) X.env = (false, eval e X.env) :: starEach es X.env := by rfl)
    (hpl : (backTo pos (starEach es X.env)).any (·.1) = false := by rfl) : PE X (.Call (.Name x p) (e :: es) [] pos) (tNew C fns ta) := by
  obtain ⟨fI, fd, hm, T, iC, tI, hb, _, F, few, hp⟩ := c.ex
  exact pe_new (CX := CX) (k := k) (fI := fI) (fd := fd) (ps := ps) ⟨T, iC, tI, F, few⟩ hr hg hm hb hp hx ha hdb he hpl
/-- the keywords in turned order -/
theorem pe_errK {kws : List Keyword} {tk : TA} (c : ErrDef X.prog X.w X.K X.mg X.base CX k x C ps fns) (hr : Room (k + 1) X.A) (hg : Gl X x) (hx : Passes CX X E0)
    (hkw : PK X kws tk) (hall : (backToKw pos (keywordEach kws X.env)).all (·.1.isSome) = true := by rfl) (hks : (backToKw pos (keywordEach kws X.env)).filterMap (·.1) = fns.reverse := by rfl)
    (hdb : (x == ("__debug__" : Str)) = false := by decide)
    (hpl : ((backTo pos (starEach [] X.env)).any (·.1) || (backToKw pos (keywordEach kws X.env)).any (·.1.isNone)) = false := by rfl) :
    PE X (.Call (.Name x p) [] kws pos) (tNew C fns fun σ H Q => tk σ H fun zs H1 => zs.length = fns.length ∧ Q zs.reverse H1) := by
  obtain ⟨fI, fd, hm, T, iC, tI, _, hb, F, few, hp⟩ := c.ex
  exact pe_newK (CX := CX) (k := k) (fI := fI) (fd := fd) (ps := ps) (ks := fns.reverse) (g := List.reverse) ⟨T, iC, tI, F, few⟩ hr hg hm hb (fun r _ => r.reverse) (fun zs h => by rw [List.length_reverse, h]) hx hkw hall hks hdb hpl
end
theorem nx_ {t b c : St → Hp → Prop} {r : VK} {σ : St} {H : Hp} (h : t σ H) : ({ nx := t, rt := r, bk := b, ct := c } : Ends).nx σ H := h
end L2

set_option Elab.async false
set_option maxRecDepth 100000
set_option maxHeartbeats 4000000
set_option linter.all false
/-! tokens and what is gone over of a history: the mathematics of k13 -/
namespace K13
open PySem PySem.Spec PyProof.Rows L2
inductive Tok where
  | begin (w : Str) | answer (n : Nat) (w : Str) | rang (n : Nat) | signal (a b : Str)
  | asked (w : Str) | set | dropped (n : Nat) | noted (w : Str) | marked (w : Str) | ended (w : Str) | anew (w : Str)
namespace Tok
def head : Tok → Str
  | .begin _ => "begin" | .answer _ _ => "answer" | .rang _ => "rang" | .signal _ _ => "signal" | .asked _ => "asked" | .set => "set"
  | .dropped _ => "dropped" | .noted _ => "noted" | .marked _ => "marked" | .ended _ => "ended" | .anew _ => "anew"
def rest : Tok → List V
  | .begin w => [.str w] | .answer n w => [.int n, .str w] | .rang n => [.int n] | .signal a b => [.str a, .str b] | .asked w => [.str w] | .set => []
  | .dropped n => [.int n] | .noted w => [.str w] | .marked w => [.str w] | .ended w => [.str w] | .anew w => [.str w]
def words : Tok → List Str
  | .begin w => [w] | .answer _ w => [w] | .rang _ => [] | .signal a b => [a, b] | .asked w => [w] | .set => []
  | .dropped _ => [] | .noted w => [w] | .marked w => [w] | .ended w => [w] | .anew w => [w]
def vals (t : Tok) : List V := .str t.head :: t.rest
def outer : Tok → Bool
  | .begin _ => true | .answer _ _ => true | .rang _ => true | .signal _ _ => true | _ => false
def num? : Tok → Option Nat
  | .answer n _ => some n | .rang n => some n | .dropped n => some n | _ => none
def withN : Tok → Nat → Tok
  | .answer _ w, n => .answer n w | .rang _, n => .rang n | .dropped _, n => .dropped n | t, _ => t
def start? : Tok → Option Bool
  | .asked _ => some true | .set => some false | _ => none
def last : Tok → Bool
  | .ended _ => true | .anew _ => true | _ => false
def isBegin : Tok → Bool
  | .begin _ => true | _ => false
end Tok
structure S where
  run : List Nat
  kinds : List Bool
  ths : List Nat
  len : Nat
  fin : Bool
def s0 : S := ⟨[], [], [], 0, false⟩
def kindOk (s : S) : Tok → Bool
  | .answer n _ => s.run.contains n && s.kinds[n]? == some true
  | .rang n => s.run.contains n && s.kinds[n]? == some false
  | .dropped n => s.run.contains n
  | _ => true
def may (s : S) (t : Tok) : Bool := !s.fin && (t.isBegin == (s.len == 0) && kindOk s t)
def bt (s : S) : S := { s with ths := s.run }
def ths0 (s : S) (t : Tok) : List Nat := if t.outer then s.run else s.ths
def go (s : S) (t : Tok) : S :=
  match t.start? with
  | some k => ⟨s.run ++ [s.kinds.length], s.kinds ++ [k], ths0 s t ++ [s.kinds.length], s.len + 1, t.last⟩
  | none => match t.num? with
    | some n => ⟨s.run.erase n, s.kinds, ths0 s t, s.len + 1, t.last⟩
    | none => ⟨s.run, s.kinds, ths0 s t, s.len + 1, t.last⟩
def age (s : S) (t : Tok) : Tok := match t.num? with
  | some n => t.withN ((ths0 s t).idxOf n)
  | none => t
def byNum (s : S) (t : Tok) : Option Tok := match t.num? with
  | some a => (s.ths[a]?).map t.withN
  | none => some t
/-- a history that may be gone over -/
def valid (s : S) : List Tok → Bool
  | [] => true
  | t :: r => may s t && valid (go s t) r
def goAll (s : S) : List Tok → S
  | [] => s
  | t :: r => goAll (go s t) r
def ageAll (s : S) : List Tok → List Tok
  | [] => []
  | t :: r => age s t :: ageAll (go s t) r
/-- the turns of a flat list -/
def cutOn (acc : List (List Tok)) (t : Tok) : List (List Tok) := if t.outer then acc ++ [[t]] else acc.dropLast ++ [(acc.getLastD []) ++ [t]]
def cutAll (ts : List Tok) : List (List Tok) := ts.foldl cutOn []
/-- what is read by age -/
def wToks (first : Bool) (s : S) (h : List Tok) : List (Option Tok) → Option (S × List Tok)
  | [] => some (s, h)
  | none :: _ => none
  | some t :: r => if t.outer != first then none else match byNum s t with
    | none => none
    | some u => if may s u then wToks false (go s u) (h ++ [u]) r else none
def wWalk (strict : Bool) (s : S) (h : List Tok) : List (Option (List (Option Tok))) → Option (List Tok)
  | [] => some h
  | none :: _ => none
  | some turn :: r => if strict && turn.isEmpty then none else match wToks true (bt s) h turn with
    | none => none
    | some (s', h') => wWalk strict s' h' r
def pBack (ts : List (Option (List (Option Tok)))) : Option (List Tok) := if ts.isEmpty then none else wWalk true s0 [] ts
def lift (ts : List (List Tok)) : List (Option (List (Option Tok))) := ts.map fun t => some (t.map some)
def lBack (ts : List (List Tok)) : Option (List Tok) := match wWalk false s0 [] (lift ts) with
  | none => none
  | some h => if ts.any List.isEmpty || h.isEmpty then none else some h
/-! ### both ways to go back agree -/
theorem wToks_len {first : Bool} : ∀ {ts : List (Option Tok)} {first : Bool} {s s' : S} {h h' : List Tok}, wToks first s h ts = some (s', h') → h'.length = h.length + ts.length
  | [], _, _, _, _, _, e => by
    simp only [wToks, Option.some.injEq, Prod.mk.injEq] at e
    rw [← e.2]; rfl
  | none :: _, _, _, _, _, _, e => by simp [wToks] at e
  | some t :: r, first, s, s', h, h', e => by
    simp only [wToks] at e
    split at e
    · cases e
    · split at e
      · cases e
      · split at e
        · have := wToks_len (first := false) e
          simp only [List.length_append, List.length_cons, List.length_nil] at this ⊢
          omega
        · cases e
theorem walk_strict {ts : List (List Tok)} (he : ts.any List.isEmpty = false) : ∀ (s : S) (h : List Tok), wWalk true s h (lift ts) = wWalk false s h (lift ts) := by
  induction ts with
  | nil => intros; rfl
  | cons t r ih =>
    intro s h
    simp only [List.any_cons, Bool.or_eq_false_iff] at he
    have e1 : (t.map some).isEmpty = false := by
      cases t with
      | nil => simp at he
      | cons a b => rfl
    simp only [lift, List.map_cons, wWalk, e1, Bool.and_false, Bool.false_eq_true, if_false]
    split
    · rfl
    · exact ih he.2 _ _
theorem walk_empty {ts : List (List Tok)} (he : ts.any List.isEmpty = true) : ∀ (s : S) (h : List Tok), wWalk true s h (lift ts) = none := by
  induction ts with
  | nil => simp at he
  | cons t r ih =>
    intro s h
    cases t with
    | nil => rfl
    | cons a b =>
      have he' : r.any List.isEmpty = true := by simpa using he
      simp only [lift, List.map_cons, wWalk, List.isEmpty_cons, Bool.and_false, Bool.false_eq_true, if_false]
      split
      · rfl
      · exact ih he' _ _
theorem walk_len : ∀ {ts : List (List Tok)} {b : Bool} {s : S} {h h' : List Tok}, wWalk b s h (lift ts) = some h' → h'.length = h.length + (ts.map List.length).sum
  | [], _, _, _, _, e => by
    simp only [lift, List.map_nil, wWalk, Option.some.injEq] at e
    rw [← e]; rfl
  | t :: r, b, s, h, h', e => by
    simp only [lift, List.map_cons, wWalk] at e
    split at e
    · cases e
    · split at e
      · cases e
      · rename_i s2 h2 q
        have l1 := wToks_len (first := true) q
        have l2 := walk_len (ts := r) e
        simp only [List.length_map] at l1
        simp only [List.map_cons, List.sum_cons]
        omega
theorem pBack_lift (ts : List (List Tok)) : pBack (lift ts) = lBack ts := by
  unfold pBack lBack
  cases ts with
  | nil => rfl
  | cons t r =>
    have e0 : (lift (t :: r)).isEmpty = false := rfl
    rw [e0]
    simp only [Bool.false_eq_true, if_false]
    cases he : (t :: r).any List.isEmpty with
    | true =>
      rw [walk_empty he]
      split <;> simp
    | false =>
      rw [walk_strict he]
      cases q : wWalk false s0 [] (lift (t :: r)) with
      | none => rfl
      | some h =>
        have l := walk_len q
        have : h.isEmpty = false := by
          cases h with
          | nil =>
            cases t with
            | nil => simp at he
            | cons a b =>
              simp only [List.length_nil, List.map_cons, List.sum_cons, List.length_cons] at l
              omega
          | cons a b => rfl
        simp [this]

/-! ### what is told by age is read back -/
def cutR : List Tok → List Tok × List (List Tok)
  | [] => ([], [])
  | t :: r => if t.outer then ([], (t :: (cutR r).1) :: (cutR r).2) else (t :: (cutR r).1, (cutR r).2)
theorem foldl_cut : ∀ (ts : List Tok) (acc : List (List Tok)) (l : List Tok), ts.foldl cutOn (acc ++ [l]) = acc ++ [l ++ (cutR ts).1] ++ (cutR ts).2
  | [], acc, l => by simp [cutR]
  | t :: r, acc, l => by
    rw [List.foldl_cons]
    cases e : t.outer with
    | true =>
      have e1 : cutOn (acc ++ [l]) t = (acc ++ [l]) ++ [[t]] := by simp [cutOn, e]
      rw [e1, foldl_cut r]
      simp [cutR, e]
    | false =>
      have e1 : cutOn (acc ++ [l]) t = acc ++ [l ++ [t]] := by simp [cutOn, e]
      rw [e1, foldl_cut r]
      simp [cutR, e]
theorem cutAll_R {t : Tok} {r : List Tok} (e : t.outer = true) : cutAll (t :: r) = (cutR (t :: r)).2 := by
  have e1 : cutOn [] t = [] ++ [[t]] := by simp [cutOn, e]
  unfold cutAll
  rw [List.foldl_cons, e1, foldl_cut]
  simp [cutR, e]
/-- a state that can be: the open things are among those with an age -/
structure Good (s : S) : Prop where
  sub : ∀ n ∈ s.run, n ∈ s.ths
  srt : s.ths.Pairwise (· < ·)
  srr : s.run.Pairwise (· < ·)
  few : ∀ n ∈ s.ths, n < s.kinds.length
theorem good0 : Good s0 := ⟨by simp [s0], by simp [s0], by simp [s0], by simp [s0]⟩
theorem Good.few' {s : S} (g : Good s) : ∀ n ∈ s.run, n < s.kinds.length := fun n h => g.few n (g.sub n h)
theorem Good.bt {s : S} (g : Good s) : Good (bt s) := ⟨fun n h => h, g.srr, g.srr, g.few'⟩
theorem Good.ths0 {s : S} (g : Good s) (t : Tok) : (ths0 s t).Pairwise (· < ·) ∧ (∀ n ∈ s.run, n ∈ ths0 s t) ∧ ∀ n ∈ ths0 s t, n < s.kinds.length := by
  unfold K13.ths0
  split
  · exact ⟨g.srr, fun n h => h, g.few'⟩
  · exact ⟨g.srt, g.sub, g.few⟩
theorem Good.go {s : S} (g : Good s) (t : Tok) : Good (go s t) := by
  obtain ⟨h1, h2, h3⟩ := g.ths0 t
  unfold K13.go
  split
  · refine ⟨fun n h => ?_, ?_, ?_, fun n h => ?_⟩
    · rcases List.mem_append.mp h with h | h
      · exact List.mem_append_left _ (h2 n h)
      · exact List.mem_append_right _ h
    · refine List.pairwise_append.mpr ⟨h1, by simp, fun a ha b hb => ?_⟩
      rw [List.mem_singleton.mp hb]
      exact h3 a ha
    · refine List.pairwise_append.mpr ⟨g.srr, by simp, fun a ha b hb => ?_⟩
      rw [List.mem_singleton.mp hb]
      exact g.few' a ha
    · show n < (s.kinds ++ [_]).length
      rw [List.length_append]
      rcases List.mem_append.mp h with h | h
      · have := h3 n h
        simp; omega
      · rw [List.mem_singleton.mp h]
        simp
  · split
    · exact ⟨fun n h => h2 n (List.mem_of_mem_erase h), h1, g.srr.sublist List.erase_sublist, h3⟩
    · exact ⟨h2, h1, g.srr, h3⟩
theorem withN_num {t : Tok} {n : Nat} (e : t.num? = some n) (a : Nat) : (t.withN a).num? = some a ∧ (t.withN a).withN n = t ∧ (t.withN a).outer = t.outer := by
  cases t <;> simp_all [Tok.num?, Tok.withN, Tok.outer]
theorem age_outer (s : S) (t : Tok) : (age s t).outer = t.outer := by
  unfold age
  split
  · rename_i n e
    exact (withN_num e _).2.2
  · rfl
theorem kind_run {s : S} {t : Tok} {n : Nat} (e : t.num? = some n) (k : kindOk s t = true) : n ∈ s.run := by
  cases t <;> simp_all [Tok.num?, kindOk]
theorem may_kind {s : S} {t : Tok} (h : may s t = true) : kindOk s t = true ∧ s.fin = false ∧ t.isBegin = (s.len == 0) := by
  simp only [may, Bool.and_eq_true, Bool.not_eq_true', beq_iff_eq] at h
  exact ⟨h.2.2, h.1, h.2.1⟩
theorem get_idx {l : List Nat} {n : Nat} (h : n ∈ l) : l[l.idxOf n]? = some n := by
  have hl := List.idxOf_lt_length_of_mem h
  rw [List.getElem?_eq_getElem hl, List.getElem_idxOf hl]
theorem byNum_age {s : S} {t : Tok} (g : Good s) (m : may s t = true) (ht : ths0 s t = s.ths) : byNum s (age s t) = some t := by
  unfold age
  split
  · rename_i n e
    obtain ⟨h1, h2, _⟩ := withN_num e ((ths0 s t).idxOf n)
    unfold byNum
    rw [h1]
    show (s.ths[(ths0 s t).idxOf n]?).map _ = _
    rw [ht, get_idx (g.sub n (kind_run e (may_kind m).1)), Option.map_some]
    rw [ht] at h2
    rw [h2]
  · rename_i e
    unfold byNum
    rw [e]
theorem may_bt (s : S) (t : Tok) : may (bt s) t = may s t := by
  cases t <;> rfl
theorem go_bt {s : S} {t : Tok} (e : t.outer = true) : go (bt s) t = go s t := by
  unfold go ths0 bt
  simp only [e, if_true]
theorem back_age : ∀ (h : List Tok) (s : S) (hh : List Tok), Good s → valid s h = true →
    ∃ s' h', wToks false s hh ((cutR (ageAll s h)).1.map some) = some (s', h') ∧ wWalk true s' h' (lift (cutR (ageAll s h)).2) = some (hh ++ h)
  | [], s, hh, _, _ => ⟨s, hh, rfl, by simp [ageAll, cutR, lift, wWalk]⟩
  | t :: r, s, hh, g, v => by
    simp only [valid, Bool.and_eq_true] at v
    obtain ⟨m, v⟩ := v
    obtain ⟨s', h', e1, e2⟩ := back_age r (go s t) (hh ++ [t]) (g.go t) v
    have eo := age_outer s t
    cases o : t.outer with
    | false =>
      rw [o] at eo
      have ht : ths0 s t = s.ths := by simp [ths0, o]
      refine ⟨s', h', ?_, ?_⟩
      · simp only [ageAll, cutR, eo, Bool.false_eq_true, if_false, List.map_cons, wToks, byNum_age g m ht, m, if_true, bne_self_eq_false]
        exact e1
      · simp only [ageAll, cutR, eo, Bool.false_eq_true, if_false]
        rw [e2]
        simp
    | true =>
      rw [o] at eo
      have ht : ths0 (bt s) t = (bt s).ths := by simp [ths0, o, bt]
      have ea : age s t = age (bt s) t := by
        unfold age ths0
        simp [o, bt]
      refine ⟨s, hh, ?_, ?_⟩
      · simp only [ageAll, cutR, eo, if_true, List.map_nil, wToks]
      · simp only [ageAll, cutR, eo, if_true, lift, List.map_cons, wWalk, List.isEmpty_cons, Bool.and_false, Bool.false_eq_true, if_false, wToks, bne_self_eq_false]
        rw [ea, byNum_age g.bt (by rw [may_bt]; exact m) ht]
        simp only [may_bt, m, if_true, go_bt o]
        rw [e1]
        simp only [lift] at e2
        exact e2.trans (by simp)
def ageTurns (s : S) : List (List Tok) → List (List Tok)
  | [] => []
  | t :: r => ageAll s t :: ageTurns (goAll s t) r
theorem age_cut : ∀ (h : List Tok) (s : S), cutR (ageAll s h) = (ageAll s (cutR h).1, ageTurns (goAll s (cutR h).1) (cutR h).2)
  | [], s => rfl
  | t :: r, s => by
    have eo := age_outer s t
    have ih := age_cut r (go s t)
    cases o : t.outer with
    | false =>
      rw [o] at eo
      simp only [ageAll, cutR, eo, o, Bool.false_eq_true, if_false, ih, goAll]
    | true =>
      rw [o] at eo
      simp only [ageAll, cutR, eo, o, if_true, ih, goAll, ageTurns]
theorem begin_outer {t : Tok} {r : List Tok} (v : valid s0 (t :: r) = true) : t.outer = true := by
  simp only [valid, Bool.and_eq_true] at v
  have := (may_kind v.1).2.2
  cases t <;> simp_all [Tok.isBegin, Tok.outer, s0]
theorem round_trip {h : List Tok} (ne : h ≠ []) (v : valid s0 h = true) : pBack (lift (cutAll (ageAll s0 h))) = some h := by
  cases h with
  | nil => exact absurd rfl ne
  | cons t r =>
    have o := begin_outer v
    have eo := age_outer s0 t
    rw [o] at eo
    obtain ⟨s', h', e1, e2⟩ := back_age (t :: r) s0 [] good0 v
    have e3 : cutAll (ageAll s0 (t :: r)) = (cutR (ageAll s0 (t :: r))).2 := cutAll_R (t := age s0 t) eo
    have e4 : (cutR (ageAll s0 (t :: r))).1 = [] := by simp [ageAll, cutR, eo]
    rw [e4] at e1
    simp only [List.map_nil, wToks, Option.some.injEq, Prod.mk.injEq] at e1
    rw [← e1.1, ← e1.2] at e2
    unfold pBack
    rw [e3]
    have e5 : (lift (cutR (ageAll s0 (t :: r))).2).isEmpty = false := by simp [ageAll, cutR, eo, lift]
    rw [e5]
    exact e2
theorem aged_eq {h : List Tok} (ne : h ≠ []) (v : valid s0 h = true) : ageTurns s0 (cutAll h) = cutAll (ageAll s0 h) := by
  cases h with
  | nil => exact absurd rfl ne
  | cons t r =>
    have o := begin_outer v
    have eo := age_outer s0 t
    rw [o] at eo
    have e3 : cutAll (ageAll s0 (t :: r)) = (cutR (ageAll s0 (t :: r))).2 := cutAll_R (t := age s0 t) eo
    rw [e3, age_cut, cutAll_R o]
    have e4 : (cutR (t :: r)).1 = [] := by simp [cutR, o]
    rw [e4]
    rfl
end K13

set_option Elab.async false
set_option maxRecDepth 100000
set_option maxHeartbeats 4000000
set_option linter.all false
namespace L2
open PySem PySem.Spec PyProof.Rows
/-! ### raise C(e, ..), C an own error over LookupError with its own __init__ -/
def tMkE (C : Addr) (fns : List Str) (ta : TA) : St → Hp → XK → Prop := fun σ H Q => ta σ H fun vs H1 => vs.length = fns.length ∧
  ∀ d H', H1 d = none → H' d = some (.xd (fns.zip vs).reverse) → (∀ b, b ≠ d → H' b = H1 b) → Q (.ref C) (some d) H'
section
variable {X : Cx} {CX : CXT} {k : Nat} {C : Addr} {ps fns : List Str} {x : Str} {p pos : Pos} {e : Expr} {es : List Expr} {ta : TA}
theorem pmk_errL (c : ErrDef X.prog X.w X.K X.mg X.base CX k x C ps fns) (hr : Room (k + 1) X.A) (hg : Gl X x) (hx : Passes CX X E0) (ha : PA X (e :: es) ta)
    (hdb : (x == ("__debug__" : Str)) = false := by decide) (he : starEach (e :: es) X.env = (false, eval e X.env) :: starEach es X.env := by rfl)
    (hpl : (backTo pos (starEach es X.env)).any (·.1) = false := by rfl) : PMk X (.Call (.Name x p) (e :: es) [] pos) (tMkE C fns ta) := by
  obtain ⟨fI, fd, hm, T, iC, tI, hb, _, F, few, hp⟩ := c.ex
  intro pins s σ H Q I h
  refine wpAny_Call_Name_kw (ld_glob I hg hm ?_ hdb)
  refine PySem.W.callWith_K (h₀ := X.base) I.ok.mod.kin T.kC (thn (ha.run pos pins s σ H _ I h) fun us s1 ⟨vs, H1, I1, r, hl, q⟩ => ⟨I1.kIn, ?_⟩) he hpl
  have lu : us.length = fns.length := r.length.symm.trans hl
  obtain ⟨nm, N, qn, bs, bm, hdct, sn, sub, ab, col, dd, k0, k1, k2, k3, k5, hC, hT⟩ := PySem.W.excInit_of I1.kIn T.ini
  show wpAny _ _ (call (.ref C) us) _ _ _
  obtain ⟨hp0, g, dr, tk, os⟩ := s1
  have hsz : hp0.objs.size ≤ hp0.objs.size + 1 := Nat.le_succ _
  have hn : H1 (hp0.objs.size + 1) = none := I1.hok.fresh hsz
  have kk : ∀ b o, hp0.get? b = some o → ((hp0.push (PySem.W.kdv_tup us)).push (PySem.HandSPX.excO C hp0.objs.size)).get? b = some o := fun b o z => Heap.get?_push_of_some _ (Heap.get?_push_of_some _ z)
  have hget : ((hp0.push (PySem.W.kdv_tup us)).push (PySem.HandSPX.excO C hp0.objs.size)).get? (hp0.objs.size + 1) = some (PySem.HandSPX.excO C hp0.objs.size) := by heap_get
  have J : Inv X pins σ (upd H1 (hp0.objs.size + 1) (exo (hp0.objs.size + 1) C none)) ⟨(hp0.push (PySem.W.kdv_tup us)).push (PySem.HandSPX.excO C hp0.objs.size), g, dr, tk, os⟩ :=
    I1.laid (t' := tk) kk hsz (exo_ok hget)
  have sp : spErr C fns (.ref (hp0.objs.size + 1) :: vs) (upd H1 (hp0.objs.size + 1) (exo (hp0.objs.size + 1) C none)) (fun v H2 => v = .non ∧ ∃ d, H1 d = none ∧ H2 d = some (exd d (fns.zip vs).reverse) ∧
      H2 (hp0.objs.size + 1) = some (exo (hp0.objs.size + 1) C (some d)) ∧ d ≠ hp0.objs.size + 1 ∧ ∀ b, b ≠ hp0.objs.size + 1 → b ≠ d → H2 b = H1 b) E0 := by
    refine ⟨_, vs, rfl, hl, upd_same, fun dx H' nd ne e1 e2 e3 => ⟨rfl, dx, ?_, e1, e2, ne, fun b h1 h2 => ?_⟩⟩
    · rw [upd_ne ne] at nd
      exact nd
    · rw [e3 b h1 h2, upd_ne h1]
  have r2 : Vals (V.ref (hp0.objs.size + 1) :: vs) (Value.ref (hp0.objs.size + 1) :: us) := .cons rfl r
  have hbb : ∀ s0 : Shared, X.K.In s0.heap → BindsTo s0 fd ⟨Value.ref (hp0.objs.size + 1) :: us, []⟩ (ps.zip (Value.ref (hp0.objs.size + 1) :: us)) := fun s0 k0 => by
    have b := hb s0 (Value.ref (hp0.objs.size + 1) :: us) k0 (by rw [List.append_nil, List.length_cons, lu, hp])
    rw [List.append_nil] at b
    exact b
  refine wpAny_call (call_kw PySem.F.excBase_LookupError hT hC (PySem.W.looks_findIn I1.kIn iC) (fun self => PySem.W.bind_fn I1.kIn self tI) (by show us.length ≤ sizeLine; rw [lu, sizeLine_eq]; omega)
    (codeAny_mono (F.run _ X.stack _ _ ⟨Value.ref (hp0.objs.size + 1) :: us, []⟩ (Value.ref (hp0.objs.size + 1) :: us) _ _ E0 (hr.make C us []) (J.env0.make C us []) (hbb _ J.kIn) r2 sp) fun r s' hq' => ?_))
  cases r with
  | error er => exact hx pins σ _ _ er s' J hq'
  | ok fl =>
    cases fl with
    | ret u =>
      obtain ⟨v, H2, os2, bare2, un2, hok2, rv, ev, d, nd, ed, ea, dne, oth⟩ := hq'
      subst ev
      obtain ⟨h2, g2, d2, t2, os'⟩ := s'
      refine ⟨rv, mk_end (raises_own T.exC T.tyC) I1 hsz kk un2 hok2 os2 bare2 ea ed nd (q d _ nd upd_same fun b hb2 => ?_)⟩
      rw [upd_ne hb2]
      by_cases z : b = hp0.objs.size + 1
      · rw [z, del_same, hn]
      · rw [del_ne z, oth b z hb2]
    | next => exact False.elim hq'
    | brk => exact False.elim hq'
    | cont => exact False.elim hq'
end
/-! ### a method of the module's class by its name -/
structure MDef (P : Program) (w : World) (K : PySem.W.Frag) (mg : Str → Option Value) (base : Heap) (CX : CXT) (k : Nat) (C : Addr) (m : Str) (ps : List Str) (sp : Sp) : Prop where
  cl : Cls K C
  ex : ∃ (f : Addr) (fd : FuncData), Meth K C m f ∧ Binds K fd ps [] ∧ FnOk P w K mg base CX k f fd ps sp
section
variable {X : Cx} {CX : CXT} {k : Nat} {C : Addr} {ps : List Str} {sp : Sp} {E : XK} {m : Str} {o e : Expr} {es : List Expr} {to : TE} {t : TA} {apos pos : Pos}
theorem pe_mth {pl : Sem Bool} (c : MDef X.prog X.w X.K X.mg X.base CX k C m ps sp) (hr : Room k X.A) (hx : Passes CX X E) (ho : PE X o to) (ha : PA X (e :: es) t)
    (hst : starEach (e :: es) X.env = (false, eval e X.env) :: starEach es X.env := by rfl) (hpl : (backTo pos (starEach es X.env)).any (·.1) = false := by rfl)
    (ht : eval (.Call (.Attribute o m apos) (e :: es) [] pos) X.env = (do
      let ov ← eval o X.env
      standAt apos.atName
      let (f, first) ← holding [ov] (getMethod ov m pl)
      callWith pos f first (backTo pos (starEach (e :: es) X.env)) (backToKw pos (keywordEach [] X.env))) := by rfl) :
    PE X (.Call (.Attribute o m apos) (e :: es) [] pos) (tMeth C m sp [] E to t) := by
  obtain ⟨f, fd, hm, hb, F⟩ := c.ex
  exact pe_meth ho c.cl hm F hr hb .nil hx ha hst hpl ht
theorem pe_mth0 {pl : Sem Bool} (c : MDef X.prog X.w X.K X.mg X.base CX k C m ps sp) (hr : Room k X.A) (hx : Passes CX X E) (ho : PE X o to)
    (ht : eval (.Call (.Attribute o m apos) [] [] pos) X.env = (do
      let ov ← eval o X.env
      standAt apos.atName
      let (f, first) ← holding [ov] (getMethod ov m pl)
      callWith pos f first (backTo pos (starEach [] X.env)) (backToKw pos (keywordEach [] X.env))) := by rfl) :
    PE X (.Call (.Attribute o m apos) [] [] pos) (tMeth C m sp [] E to tNil) := by
  obtain ⟨f, fd, hm, hb, F⟩ := c.ex
  exact pe_meth0 ho c.cl hm F hr hb .nil hx ht
end
/-! ### written dicts with text keys -/
def KD (K : PySem.W.Frag) (w : World) (d : Addr) : Prop := ∃ es n, KDict K w d es n
section
variable {X : Cx} {d : Addr}
def rInKd (K : PySem.W.Frag) (d : Addr) : R2 := fun x y H Q => ∃ (z : Str) (r : Option Value), x = .str z ∧ y = .ref d ∧ PySem.W.nsIn K d z = some r ∧ Q (.bl r.isSome) H
def rNotInKd (K : PySem.W.Frag) (d : Addr) : R2 := fun x y H Q => ∃ (z : Str) (r : Option Value), x = .str z ∧ y = .ref d ∧ PySem.W.nsIn K d z = some r ∧ Q (.bl (!r.isSome)) H
theorem op_in_kd' (D : KD X.K X.w d) : OpR X (compareOp .In) (rInKd X.K d) := by
  obtain ⟨es, n, D⟩ := D
  exact op_in_kd D
theorem op_notIn_kd' (D : KD X.K X.w d) : OpR X (compareOp .NotIn) (rNotInKd X.K d) := by
  obtain ⟨es, n, D⟩ := D
  exact op_notIn_kd D
theorem kdct {K : PySem.W.Frag} {w : World} {d : Addr} {z : Str} {u : Value} {v : V} (D : KD K w d) (e : PySem.W.nsIn K d z = some (some u)) (r : RelV v u) : KDct K w d z v := by
  obtain ⟨es, n, D⟩ := D
  exact ⟨es, n, u, D.at_, D.lit, e, r⟩
end
theorem walk_zipT {K : PySem.W.Frag} {a b : Addr} {xs ys : List V} {n : Nat} (hn : n = min xs.length ys.length) : Walk (RZ.ItzT K a b) n (fun H => SqT K H a xs ∧ SqT K H b ys) (YPair (fun i => xs[i]?) (fun i => ys[i]?)) := by
  subst hn
  refine ⟨fun i _ hi q => ?_, fun _ q => ⟨xs, ys, q.1, q.2, by omega⟩, fun i H v H' _ q y => ?_⟩
  · have h1 : i < xs.length := by omega
    have h2 : i < ys.length := by omega
    exact ⟨xs, ys, xs[i], ys[i], q.1, q.2, by simp [h1], by simp [h2]⟩
  · obtain ⟨T, x, z, h1, h2, h3, h4, h5⟩ := y
    exact ⟨T, x, z, h1, h2, h3, h4 xs q.1, h5 ys q.2⟩
end L2

set_option Elab.async false
set_option maxRecDepth 100000
set_option maxHeartbeats 4000000
set_option linter.all false
namespace K13
open PySem PySem.Spec PyProof.Rows L2
def top (i : Nat) : Stmt := PySem.Challenge.pw_openruns_k13_ages_and_numbers.main.body.getD i (.Pass ⟨0, 0, 0, 0⟩)
abbrev FnP (K : PySem.W.Frag) (x qual : Str) (st : Stmt) (f : Addr) (fd : FuncData) : Prop := FunD K x qual (defArgs st) (defBody st) (defScope st) [] [] f fd
abbrev s_is_word : Stmt := top 7
abbrev n_is_word : List Str := ["value", "letter"]
abbrev p_is_word : List Str := ["value"]
theorem sc_is_word : FnScope n_is_word p_is_word (defScope s_is_word) := ⟨rfl, rfl, rfl, by decide +kernel, rfl, by decide +kernel, by decide +kernel⟩
abbrev s_is_integer : Stmt := top 8
abbrev n_is_integer : List Str := ["value"]
abbrev p_is_integer : List Str := ["value"]
theorem sc_is_integer : FnScope n_is_integer p_is_integer (defScope s_is_integer) := ⟨rfl, rfl, rfl, by decide +kernel, rfl, by decide +kernel, by decide +kernel⟩
abbrev s_gone_over : Stmt := top 15
abbrev n_gone_over : List Str := ["tokens", "running", "started", "at_end", "at", "token"]
abbrev p_gone_over : List Str := ["tokens"]
theorem sc_gone_over : FnScope n_gone_over p_gone_over (defScope s_gone_over) := ⟨rfl, rfl, rfl, by decide +kernel, rfl, by decide +kernel, by decide +kernel⟩
abbrev s_turns_in : Stmt := top 16
abbrev n_turns_in : List Str := ["tokens", "starts", "ends", "at", "token", "start", "end"]
abbrev p_turns_in : List Str := ["tokens"]
theorem sc_turns_in : FnScope n_turns_in p_turns_in (defScope s_turns_in) := ⟨rfl, rfl, rfl, by decide +kernel, rfl, by decide +kernel, by decide +kernel⟩
abbrev s_renumbered : Stmt := top 17
abbrev n_renumbered : List Str := ["tokens", "to_ages", "told", "things", "lost", "started", "token", "number"]
abbrev p_renumbered : List Str := ["tokens", "to_ages"]
theorem sc_renumbered : FnScope n_renumbered p_renumbered (defScope s_renumbered) := ⟨rfl, rfl, rfl, by decide +kernel, rfl, by decide +kernel, by decide +kernel⟩
abbrev s_is_outer : Stmt := top 18
abbrev n_is_outer : List Str := ["token"]
abbrev p_is_outer : List Str := ["token"]
theorem sc_is_outer : FnScope n_is_outer p_is_outer (defScope s_is_outer) := ⟨rfl, rfl, rfl, by decide +kernel, rfl, by decide +kernel, by decide +kernel⟩
abbrev s_has_form : Stmt := top 19
abbrev n_has_form : List Str := ["token", "forms", "form", "part"]
abbrev p_has_form : List Str := ["token"]
theorem sc_has_form : FnScope n_has_form p_has_form (defScope s_has_form) := ⟨rfl, rfl, rfl, by decide +kernel, rfl, by decide +kernel, by decide +kernel⟩
abbrev s_fits : Stmt := top 20
abbrev n_fits : List Str := ["form", "part"]
abbrev p_fits : List Str := ["form", "part"]
theorem sc_fits : FnScope n_fits p_fits (defScope s_fits) := ⟨rfl, rfl, rfl, by decide +kernel, rfl, by decide +kernel, by decide +kernel⟩
abbrev s_place_in : Stmt := top 21
abbrev n_place_in : List Str := ["numbers", "number", "low", "high", "middle"]
abbrev p_place_in : List Str := ["numbers", "number"]
theorem sc_place_in : FnScope n_place_in p_place_in (defScope s_place_in) := ⟨rfl, rfl, rfl, by decide +kernel, rfl, by decide +kernel, by decide +kernel⟩
abbrev s_check : Stmt := top 23
abbrev n_check : List Str := ["history"]
abbrev p_check : List Str := ["history"]
theorem sc_check : FnScope n_check p_check (defScope s_check) := ⟨rfl, rfl, rfl, by decide +kernel, rfl, by decide +kernel, by decide +kernel⟩
abbrev s_cut : Stmt := top 24
abbrev n_cut : List Str := ["history", "flaw"]
abbrev p_cut : List Str := ["history"]
theorem sc_cut : FnScope n_cut p_cut (defScope s_cut) := ⟨rfl, rfl, rfl, by decide +kernel, rfl, by decide +kernel, by decide +kernel⟩
abbrev s_aged : Stmt := top 25
abbrev n_aged : List Str := ["history"]
abbrev p_aged : List Str := ["history"]
theorem sc_aged : FnScope n_aged p_aged (defScope s_aged) := ⟨rfl, rfl, rfl, by decide +kernel, rfl, by decide +kernel, by decide +kernel⟩
abbrev s_numbered : Stmt := top 26
abbrev n_numbered : List Str := ["turns", "history", "turn", "token"]
abbrev p_numbered : List Str := ["turns"]
theorem sc_numbered : FnScope n_numbered p_numbered (defScope s_numbered) := ⟨rfl, rfl, rfl, by decide +kernel, rfl, by decide +kernel, by decide +kernel⟩
abbrev s_is_like_turn : Stmt := top 27
abbrev n_is_like_turn : List Str := ["value", "token"]
abbrev p_is_like_turn : List Str := ["value"]
theorem sc_is_like_turn : FnScope n_is_like_turn p_is_like_turn (defScope s_is_like_turn) := ⟨rfl, rfl, rfl, by decide +kernel, rfl, by decide +kernel, by decide +kernel⟩
abbrev s__law_bag : Stmt := top 29
abbrev n__law_bag : List Str := ["_law_script", "_law_cell"]
abbrev p__law_bag : List Str := ["_law_script"]
theorem sc__law_bag : FnScope n__law_bag p__law_bag (defScope s__law_bag) := ⟨rfl, rfl, rfl, by decide +kernel, rfl, by decide +kernel, by decide +kernel⟩
abbrev s__law_draw : Stmt := top 30
abbrev n__law_draw : List Str := ["_law_bag_here", "_law_many", "_law_number", "_law_cell", "_law_value"]
abbrev p__law_draw : List Str := ["_law_bag_here", "_law_many"]
theorem sc__law_draw : FnScope n__law_draw p__law_draw (defScope s__law_draw) := ⟨rfl, rfl, rfl, by decide +kernel, rfl, by decide +kernel, by decide +kernel⟩
abbrev s__law_one : Stmt := top 31
abbrev n__law_one : List Str := ["_law_bag_here", "_law_items"]
abbrev p__law_one : List Str := ["_law_bag_here", "_law_items"]
theorem sc__law_one : FnScope n__law_one p__law_one (defScope s__law_one) := ⟨rfl, rfl, rfl, by decide +kernel, rfl, by decide +kernel, by decide +kernel⟩
abbrev s__law_words : Stmt := top 32
abbrev n__law_words : List Str := ["_law_bag_here", "_law_many", "_law_most", "_law_taken", "_law_letters", "_law_words_here", "_law_k", "_law_size", "_law_word", "_law_shift", "_law_last", "_law_place"]
abbrev p__law_words : List Str := ["_law_bag_here", "_law_many", "_law_most", "_law_taken"]
theorem sc__law_words : FnScope n__law_words p__law_words (defScope s__law_words) := ⟨rfl, rfl, rfl, by decide +kernel, rfl, by decide +kernel, by decide +kernel⟩
abbrev s__law_same : Stmt := top 33
abbrev n__law_same : List Str := ["_law_told_here", "_law_due", "_law_k"]
abbrev p__law_same : List Str := ["_law_told_here", "_law_due"]
theorem sc__law_same : FnScope n__law_same p__law_same (defScope s__law_same) := ⟨rfl, rfl, rfl, by decide +kernel, rfl, by decide +kernel, by decide +kernel⟩
abbrev s__law_history : Stmt := top 34
abbrev n__law_history : List Str := ["_law_bag_here", "_law_history_here", "_law_running", "_law_kinds", "_law_k", "_law_way", "_law_number", "_law_word"]
abbrev p__law_history : List Str := ["_law_bag_here"]
theorem sc__law_history : FnScope n__law_history p__law_history (defScope s__law_history) := ⟨rfl, rfl, rfl, by decide +kernel, rfl, by decide +kernel, by decide +kernel⟩
abbrev s__law_turns : Stmt := top 35
abbrev n__law_turns : List Str := ["_law_history_here", "_law_turns_here", "_law_running", "_law_things", "_law_fresh", "_law_token"]
abbrev p__law_turns : List Str := ["_law_history_here"]
theorem sc__law_turns : FnScope n__law_turns p__law_turns (defScope s__law_turns) := ⟨rfl, rfl, rfl, by decide +kernel, rfl, by decide +kernel, by decide +kernel⟩
abbrev s__law_back : Stmt := top 36
abbrev n__law_back : List Str := ["_law_turns_here", "_law_history_here", "_law_running", "_law_kinds", "_law_turn", "_law_things", "_law_k", "_law_token"]
abbrev p__law_back : List Str := ["_law_turns_here"]
theorem sc__law_back : FnScope n__law_back p__law_back (defScope s__law_back) := ⟨rfl, rfl, rfl, by decide +kernel, rfl, by decide +kernel, by decide +kernel⟩
abbrev s__law_told : Stmt := top 37
abbrev n__law_told : List Str := ["_law_turns_here", "e"]
abbrev p__law_told : List Str := ["_law_turns_here"]
theorem sc__law_told : FnScope n__law_told p__law_told (defScope s__law_told) := ⟨rfl, rfl, rfl, by decide +kernel, rfl, by decide +kernel, by decide +kernel⟩
abbrev s__law_changed : Stmt := top 38
abbrev n__law_changed : List Str := ["_law_bag_here", "_law_turns_here", "_law_changed_here", "_law_place", "_law_turn", "_law_at", "_law_way", "_law_token"]
abbrev p__law_changed : List Str := ["_law_bag_here", "_law_turns_here"]
theorem sc__law_changed : FnScope n__law_changed p__law_changed (defScope s__law_changed) := ⟨rfl, rfl, rfl, by decide +kernel, rfl, by decide +kernel, by decide +kernel⟩
abbrev s_law : Stmt := top 39
abbrev n_law : List Str := ["_law_script", "_law_bag_here", "_law_history_here", "_law_turns_here", "_law_handed", "_law_given", "_law_changed_here", "_law_due", "_law_bad", "_law_value", "_law_turn"]
abbrev p_law : List Str := ["_law_script"]
theorem sc_law : FnScope n_law p_law (defScope s_law) := ⟨rfl, rfl, rfl, by decide +kernel, rfl, by decide +kernel, by decide +kernel⟩
/-! ### what the head tells -/
def kindV (v : V) : V := match v with
  | .int _ => .str "number"
  | _ => .str "word"
/-- the forms of a token's parts, by its head -/
def fms (t : Tok) : List V := t.rest.map kindV
def kindS (k : Bool) : Str := if k then "ask" else "timer"
def nms : Tok → List V
  | .answer _ _ => [.str "ask"]
  | .rang _ => [.str "timer"]
  | _ => [.str "ask", .str "timer"]
abbrev dO (K : PySem.W.Frag) : Addr := He.ga K "OUTER_FORMS"
abbrev dC (K : PySem.W.Frag) : Addr := He.ga K "COMMAND_FORMS"
abbrev dS (K : PySem.W.Frag) : Addr := He.ga K "STARTED"
abbrev dN (K : PySem.W.Frag) : Addr := He.ga K "NAMED"
structure HeadF (K : PySem.W.Frag) : Prop where
  out : ∀ t : Tok, t.outer = true → ∃ p, PySem.W.nsIn K (dO K) t.head = some (some (.ref p)) ∧ ∀ H, SqT K H p (fms t)
  noOut : ∀ t : Tok, t.outer = false → PySem.W.nsIn K (dO K) t.head = some none
  com : ∀ t : Tok, t.outer = false → ∃ p, PySem.W.nsIn K (dC K) t.head = some (some (.ref p)) ∧ ∀ H, SqT K H p (fms t)
  sta : ∀ (t : Tok) k, t.start? = some k → ∃ u, PySem.W.nsIn K (dS K) t.head = some (some u) ∧ RelV (.str (kindS k)) u
  noSta : ∀ t : Tok, t.start? = none → PySem.W.nsIn K (dS K) t.head = some none
  nam : ∀ (t : Tok) n, t.num? = some n → ∃ p, PySem.W.nsIn K (dN K) t.head = some (some (.ref p)) ∧ ∀ H, SqT K H p (nms t)
  noNam : ∀ t : Tok, t.num? = none → PySem.W.nsIn K (dN K) t.head = some none
structure Tx (w : World) (K : PySem.W.Frag) (mg : Str → Option Value) : Prop where
  b_isinstance : mg "isinstance" = none
  b_str : mg "str" = none
  b_int : mg "int" = none
  b_bool : mg "bool" = none
  b_tuple : mg "tuple" = none
  b_list : mg "list" = none
  b_dict : mg "dict" = none
  b_len : mg "len" = none
  b_all : mg "all" = none
  b_any : mg "any" = none
  b_zip : mg "zip" = none
  b_enumerate : mg "enumerate" = none
  b_range : mg "range" = none
  b_sorted : mg "sorted" = none
  m_LONGEST_WORD : ∃ t, mg "LONGEST_WORD" = some (.int 8 t)
  lastT : ∀ H, SqT K H (He.ga K "LAST_WORDS") [.str "ended", .str "anew"]
  m_LAST_WORDS : mg "LAST_WORDS" = some (.ref (He.ga K "LAST_WORDS"))
  hd : HeadF K
  m_OUTER_FORMS : mg "OUTER_FORMS" = some (.ref (He.ga K "OUTER_FORMS"))
  D_OUTER_FORMS : KD K w (He.ga K "OUTER_FORMS")
  m_COMMAND_FORMS : mg "COMMAND_FORMS" = some (.ref (He.ga K "COMMAND_FORMS"))
  D_COMMAND_FORMS : KD K w (He.ga K "COMMAND_FORMS")
  m_STARTED : mg "STARTED" = some (.ref (He.ga K "STARTED"))
  D_STARTED : KD K w (He.ga K "STARTED")
  m_NAMED : mg "NAMED" = some (.ref (He.ga K "NAMED"))
  D_NAMED : KD K w (He.ga K "NAMED")
end K13

set_option Elab.async false
set_option maxRecDepth 100000
set_option maxHeartbeats 4000000
set_option linter.all false
namespace K13
open PySem PySem.Spec PyProof.Rows L2
def lowC (c : Nat) : Bool := (!decide ((⟨#[c]⟩ : Str).cps.toList < ("a" : Str).cps.toList)) && (!decide (("z" : Str).cps.toList < (⟨#[c]⟩ : Str).cps.toList))
def isWord (z : Str) : Bool := (decide (1 ≤ (z.length : Int)) && decide ((z.length : Int) ≤ 8)) && (z.cps.toList.map lowC).all id
def spIsWord : Sp := fun vs H Q _ => ∃ z : Str, vs = [.str z] ∧ z.length ≤ sizeLine ∧ ∀ H', Same H H' → Q (.bl (isWord z)) H'
theorem tchainS {i j c : Str} {ta tb : TE} {σ : L2.St} {H : Hp} {Q : VK} (ha : Val ta σ H (.str i)) (hb : Val tb σ H (.str j))
    (h : Q (.bl ((!decide (j.cps.toList < i.cps.toList)) && (!decide (c.cps.toList < j.cps.toList)))) H) :
    tChain (fun x y H Q => ∃ i j, x = V.str i ∧ y = V.str j ∧ Q (V.bl !decide (j.cps.toList < i.cps.toList)) H) (fun x y H Q => ∃ i j, x = V.str i ∧ y = V.str j ∧ Q (V.bl !decide (j.cps.toList < i.cps.toList)) H) ta tb (tC (.str c)) σ H Q := by
  refine ha _ (hb _ ⟨i, j, rfl, rfl, (!decide (j.cps.toList < i.cps.toList)), rfl, ?_⟩)
  cases e : (!decide (j.cps.toList < i.cps.toList)) with
  | true =>
    rw [e] at h
    exact iteT ⟨j, c, rfl, rfl, h⟩
  | false =>
    rw [e] at h
    exact iteF h
theorem tYes_ {σ : L2.St} {H : Hp} {Q : Bool → Hp → Prop} (h : Q true H) : tYes σ H Q := h
theorem take_more {α : Type} : ∀ {l : List α} {i : Nat} {x : α}, l[i]? = some x → l.take (i + 1) = l.take i ++ [x]
  | [], i, x, h => by simp at h
  | a :: l, 0, x, h => by
    cases Option.some.inj h
    rfl
  | a :: l, i + 1, x, h => by
    have ih := take_more (l := l) (i := i) (x := x) h
    simp [List.take_succ_cons, ih]
section
variable {P : Program} {w : World} {K : PySem.W.Frag} {mg : Str → Option Value} {base : Heap}
theorem ok_is_word {f : Addr} {fd : FuncData} (F : FnP K "is_word" "is_word" s_is_word f fd) (T : Tx w K mg) : FnOk P w K mg base CX0 1 f fd p_is_word spIsWord := by
  refine F.ok sc_is_word (fun vs H Q E h => ?_) (fun cdv A outer s H vs Q E hr h => ?_)
  · obtain ⟨z, rfl, _⟩ := h
    rfl
  · obtain ⟨z, rfl, hl, k⟩ := h
    obtain ⟨tL, mL⟩ := T.m_LONGEST_WORD
    refine ⟨_, PSs.nox (pss_cons (ps_if (PW.pt (pw_or (pt_not (pt_val (pe_callB call_isi (by rfl) T.b_isinstance (by decide +kernel) (pa_cons (pv 0) (pa_cons (pe_bltn (v := .ty "str") (u := .type "str") (by rfl) T.b_str (by decide +kernel) rfl) pa_nil))))) (pw_or1 (pt_not (pt_chain op_le op_le pe_int (pe_callB call_len_str (by rfl) T.b_len PySem.boot_len (pa_cons (pv 0) pa_nil)) (pe_glob (by rfl) mL (show RelV (.int 8) _ from ⟨_, rfl⟩))))))) (pss_one (ps_ret pe_bl)) pss_nil)
      (pss_one (ps_ret (pe_callB (cr_all rfl) (by rfl) T.b_all (by decide +kernel) (pa_cons (pe_lc (own := [("letter", 1)]) (g := (gName 1)) (by rfl) sc_is_word.nd (pi_str (pv 0)) (blkOk_by (N := n_is_word) (sc := defScope s_is_word) (by decide +kernel)) (fun _ _ _ _ _ => (pg_name (i := 1) sc_is_word.nd rfl (.inl rfl))) (fun _ _ _ _ _ => pts_nil) (fun _ _ _ _ _ => (pe_chain op_le_str op_le_str pe_str (pv 1) pe_str))) pa_nil))))), ?_⟩
    refine ⟨_, rfl, .str z, .ty "str", _, _, true, rfl, .ty _, .base (.str z), kit_ty (by decide +kernel), _, rfl, ?_⟩
    refine iteF ?_
    refine tchainC (i := 1) (j := (z.length : Int)) (c := 8) val_c (fun Q q => ⟨_, rfl, _, rfl, hl, q⟩) ⟨_, rfl, ?_⟩
    cases e : (decide (1 ≤ (z.length : Int)) && decide ((z.length : Int) ≤ 8)) with
    | false =>
      refine iteT ?_
      have e2 : isWord z = false := by unfold isWord; rw [e]; rfl
      rw [← e2]
      exact k H (Same.refl H)
    | true =>
      refine iteF ?_
      refine ⟨_, rfl, _, rfl, fun D nD => ?_⟩
      refine lc_it (walk_str (z := z)) (fun i H' => H' = upd H D (.lst (((z.cps.toList.map lowC).take i).map V.bl))) rfl (fun _ _ _ _ => trivial) (fun i x H1 H2 hi p y => ?_) (fun H1 p => ?_)
      · obtain ⟨rfl, c, hc, rfl⟩ := y
        subst p
        refine ⟨rfl, ?_⟩
        refine tYes_ ?_
        refine iteT ?_
        refine tchainS (i := "a") (j := ⟨#[c]⟩) (c := "z") val_c (val_var rfl) ?_
        refine ⟨_, upd_same, ?_, ?_⟩
        · rw [List.length_map, List.length_take, List.length_map]
          refine small1000 ?_
          simp only [Bool.and_eq_true, decide_eq_true_eq] at e
          have : z.cps.toList.length = z.length := by simp [Str.length]
          omega
        · rw [upd_upd]
          have hc' : (z.cps.toList.map lowC)[i]? = some (lowC c) := by
            rw [List.getElem?_map, Array.getElem?_toList, hc]; rfl
          rw [take_more hc', List.map_append]
          rfl
      · subst p
        refine ⟨D, z.cps.toList.map lowC, rfl, SqL.of ?_, ?_⟩
        · rw [upd_same, List.take_of_length_le (by simp)]
        · have e2 : isWord z = (z.cps.toList.map lowC).all id := by unfold isWord; rw [e]; rfl
          rw [← e2]
          exact k _ (Same.new nD)
end
end K13

set_option Elab.async false
set_option maxRecDepth 100000
set_option maxHeartbeats 4000000
set_option linter.all false
namespace K13
open PySem PySem.Spec PyProof.Rows L2
def spIsInt : Sp := fun vs H Q _ => ∃ (v : V) (b : Bool), vs = [v] ∧ ((∃ i, v = .int i ∧ b = true) ∨ (∃ c, v = .bl c ∧ b = false)) ∧ Q (.bl b) H
inductive Fit : V → V → Bool → Prop where
  | num (i : Int) : Fit (.str "number") (.int i) (decide (0 ≤ i))
  | flag (c : Bool) : Fit (.str "number") (.bl c) false
  | word (z : Str) (h : z.length ≤ sizeLine) : Fit (.str "word") (.str z) (isWord z)
def spFits : Sp := fun vs H Q _ => ∃ (fm v : V) (b : Bool), vs = [fm, v] ∧ Fit fm v b ∧ ∀ H', Same H H' → Q (.bl b) H'
section
variable {P : Program} {w : World} {K : PySem.W.Frag} {mg : Str → Option Value} {base : Heap}
theorem ok_is_integer {f : Addr} {fd : FuncData} (F : FnP K "is_integer" "is_integer" s_is_integer f fd) (T : Tx w K mg) : FnOk P w K mg base CX0 1 f fd p_is_integer spIsInt := by
  refine F.ok sc_is_integer (fun vs H Q E h => ?_) (fun cdv A outer s H vs Q E hr h => ?_)
  · obtain ⟨v, b, rfl, _⟩ := h
    rfl
  · obtain ⟨v, b, rfl, hv, k⟩ := h
    refine ⟨_, PSs.nox (pss_one (ps_ret (pe_and (pe_callB call_isi (by rfl) T.b_isinstance (by decide +kernel) (pa_cons (pv 0) (pa_cons (pe_bltn (v := .ty "int") (u := .type "int") (by rfl) T.b_int (by decide +kernel) rfl) pa_nil))) (pe_one (pe_not (pe_callB call_isi (by rfl) T.b_isinstance (by decide +kernel) (pa_cons (pv 0) (pa_cons (pe_bltn (v := .ty "bool") (u := .type "bool") (by rfl) T.b_bool (by decide +kernel) rfl) pa_nil)))))))), ?_⟩
    rcases hv with ⟨i, rfl, rfl⟩ | ⟨c, rfl, rfl⟩
    · refine ⟨_, rfl, .int i, .ty "int", _, _, true, rfl, .ty _, .base (.int i), kit_ty (by decide +kernel), _, rfl, ?_⟩
      refine iteT ⟨_, rfl, .int i, .ty "bool", _, _, false, rfl, .ty _, .base (.int i), kit_ty (by decide +kernel), _, rfl, ?_⟩
      exact k
    · refine ⟨_, rfl, .bl c, .ty "int", _, _, true, rfl, .ty _, .base (.bl c), kit_ty (by decide +kernel), _, rfl, ?_⟩
      refine iteT ⟨_, rfl, .bl c, .ty "bool", _, _, true, rfl, .ty _, .base (.bl c), kit_ty (by decide +kernel), _, rfl, ?_⟩
      exact k
theorem ok_fits {f : Addr} {fd : FuncData} (F : FnP K "fits" "fits" s_fits f fd) (T : Tx w K mg) (G_is_integer : Def P w K mg base CX0 1 "is_integer" p_is_integer spIsInt)
    (G_is_word : Def P w K mg base CX0 1 "is_word" p_is_word spIsWord) : FnOk P w K mg base CX0 2 f fd p_fits spFits := by
  refine F.ok sc_fits (fun vs H Q E h => ?_) (fun cdv A outer s H vs Q E hr h => ?_)
  · obtain ⟨fm, v, b, rfl, _⟩ := h
    rfl
  · obtain ⟨fm, v, b, rfl, hf, k⟩ := h
    refine ⟨_, PSs.nox (pss_cons (ps_if (pt_cmpR op_eq (pv 0) pe_str (nomark _)) (pss_one (ps_ret (pe_and (pe_fn G_is_integer (hr.mono (by decide)) (by rfl) pass0 (pa_cons (pv 1) pa_nil)) (pe_one (pe_cmpR op_ge (pv 1) pe_int (nomark _)))))) pss_nil)
      (pss_one (ps_ret (pe_fn G_is_word (hr.mono (by decide)) (by rfl) pass0 (pa_cons (pv 1) pa_nil))))), ?_⟩
    cases hf with
    | num i =>
      refine ⟨_, rfl, rfl, _, rfl, ?_⟩
      refine iteT ⟨_, rfl, .int i, true, rfl, .inl ⟨i, rfl, rfl⟩, _, rfl, ?_⟩
      refine iteT ⟨_, rfl, _, _, rfl, rfl, ?_⟩
      exact k H (Same.refl H)
    | flag c =>
      refine ⟨_, rfl, rfl, _, rfl, ?_⟩
      refine iteT ⟨_, rfl, .bl c, false, rfl, .inr ⟨c, rfl, rfl⟩, _, rfl, ?_⟩
      refine iteF ?_
      exact k H (Same.refl H)
    | word z h =>
      refine ⟨_, rfl, rfl, _, rfl, ?_⟩
      refine iteF ⟨_, rfl, z, rfl, h, ?_⟩
      exact k
end
/-! ### tokens in memory -/
def TokAt (K : PySem.W.Frag) (H : Hp) (v : V) (t : Tok) : Prop := ∃ a, v = .ref a ∧ SqT K H a t.vals
def okW (t : Tok) : Prop := ∀ z ∈ t.words, isWord z = true
inductive Bad (K : PySem.W.Frag) (H : Hp) : V → Prop where
  | non : Bad K H .non
  | lst {a : Addr} {xs : List V} (h : SqL K H a xs) : Bad K H (.ref a)
  | short {a : Addr} (h : SqT K H a [.str "begin"]) : Bad K H (.ref a)
  | flag {a : Addr} (h : SqT K H a [.str "rang", .bl true]) : Bad K H (.ref a)
  | word {a : Addr} (h : SqT K H a [.str "signal", .str "A", .str "b"]) : Bad K H (.ref a)
def TV (K : PySem.W.Frag) (H : Hp) (v : V) : Option Tok → Prop
  | some t => TokAt K H v t ∧ okW t
  | none => Bad K H v
def spHasForm (K : PySem.W.Frag) : Sp := fun vs H Q _ => ∃ (v : V) (o : Option Tok), vs = [v] ∧ TV K H v o ∧ ∀ H', Same H H' → Q (.bl o.isSome) H'
/-- a tuple with the head of t0 -/
def FormsAs (t0 : Tok) (rs : List V) (b : Bool) : Prop := rs.length ≤ 2 ∧ ((rs.length ≠ (fms t0).length ∧ b = false) ∨ (rs.length = (fms t0).length ∧ ∃ bs : List Bool, bs.length = rs.length ∧ (∀ i, ∀ h1 : i < (fms t0).length, ∀ h2 : i < rs.length, ∀ h3 : i < bs.length, Fit (fms t0)[i] rs[i] bs[i]) ∧ b = bs.all id))
end K13

set_option Elab.async false
set_option maxRecDepth 100000
set_option maxHeartbeats 4000000
set_option linter.all false
namespace K13
open PySem PySem.Spec PyProof.Rows L2
theorem at0 {x : V} {xs : List V} : atI (x :: xs) 0 = some x := atI_nat (xs := x :: xs) (j := 0) (by rfl)
theorem at1 {x y : V} {xs : List V} : atI (x :: y :: xs) 1 = some y := atI_nat (xs := x :: y :: xs) (j := 1) (by rfl)
theorem tyT {K : PySem.W.Frag} {H : Hp} {a : Addr} {xs : List V} (h : SqT K H a xs) : TyX K H (.ref a) (.type "tuple") := by
  rcases h with (h | ⟨o, h⟩) | ⟨o, _, _, h, hc, _⟩
  · exact .base (.tup h)
  · exact .fTuple h
  · exact .kTuple h hc
theorem tyL {K : PySem.W.Frag} {H : Hp} {a : Addr} {xs : List V} (h : SqL K H a xs) : TyX K H (.ref a) (.type "list") := by
  rcases h with (h | ⟨o, h⟩) | ⟨o, _, _, h, hc, _⟩
  · exact .base (.lst h)
  · exact .base (.frz h)
  · exact .kList h hc
theorem sameT {K : PySem.W.Frag} {H H' : Hp} {a : Addr} {xs : List V} (e : Same H H') (h : SqT K H a xs) : SqT K H' a xs := by
  rcases h with (h | ⟨o, h⟩) | h
  · exact .inl (.inl (e _ _ h))
  · exact .inl (.inr ⟨o, e _ _ h⟩)
  · exact .inr h
theorem TokAt.same {K : PySem.W.Frag} {H H' : Hp} {v : V} {t : Tok} (e : Same H H') (h : TokAt K H v t) : TokAt K H' v t := by
  obtain ⟨a, rfl, h⟩ := h
  exact ⟨a, rfl, sameT e h⟩
theorem TV.same {K : PySem.W.Frag} {H H' : Hp} {v : V} {o : Option Tok} (e : Same H H') (h : TV K H v o) : TV K H' v o := by
  cases o with
  | some t => exact ⟨h.1.same e, h.2⟩
  | none =>
    cases (show Bad K H v from h) with
    | non => exact Bad.non
    | lst h2 => exact Bad.lst (e.seq h2)
    | short h2 => exact Bad.short (sameT e h2)
    | flag h2 => exact Bad.flag (sameT e h2)
    | word h2 => exact Bad.word (sameT e h2)
theorem word_len {z : Str} (h : isWord z = true) : z.length ≤ 8 := by
  unfold isWord at h
  simp only [Bool.and_eq_true, decide_eq_true_eq] at h
  omega
theorem word_line {z : Str} (h : isWord z = true) : z.length ≤ sizeLine := Nat.le_of_lt (small1000 (Nat.le_trans (word_len h) (by decide)))
/-- a good token's parts have their forms -/
theorem forms_good {t : Tok} (h : okW t) : FormsAs t t.rest true := by
  have w1 : ∀ z, isWord z = true → Fit (.str "word") (.str z) true := fun z hz => by
    have := Fit.word z (word_line hz)
    rwa [hz] at this
  have n1 : ∀ n : Nat, Fit (.str "number") (.int n) true := fun n => by
    have := Fit.num (n : Int)
    rwa [decide_eq_true (by omega : (0 : Int) ≤ n)] at this
  have two : ∀ (f1 f2 v1 v2 : V), Fit f1 v1 true → Fit f2 v2 true → ∀ i, ∀ h1 : i < [f1, f2].length, ∀ h2 : i < [v1, v2].length, ∀ h3 : i < [true, true].length, Fit [f1, f2][i] [v1, v2][i] [true, true][i] := fun f1 f2 v1 v2 a b i h1 h2 h3 => by
    match i with
    | 0 => exact a
    | 1 => exact b
    | j + 2 => simp only [List.length_cons, List.length_nil] at h1; omega
  have one : ∀ (f1 v1 : V), Fit f1 v1 true → ∀ i, ∀ h1 : i < [f1].length, ∀ h2 : i < [v1].length, ∀ h3 : i < [true].length, Fit [f1][i] [v1][i] [true][i] := fun f1 v1 a i h1 h2 h3 => by
    match i with
    | 0 => exact a
    | j + 1 => simp only [List.length_cons, List.length_nil] at h1; omega
  cases t with
  | begin z => exact ⟨by simp [Tok.rest], .inr ⟨rfl, [true], rfl, one _ _ (w1 z (h z (by simp [Tok.words]))), rfl⟩⟩
  | answer n z => exact ⟨by simp [Tok.rest], .inr ⟨rfl, [true, true], rfl, two _ _ _ _ (n1 n) (w1 z (h z (by simp [Tok.words]))), rfl⟩⟩
  | rang n => exact ⟨by simp [Tok.rest], .inr ⟨rfl, [true], rfl, one _ _ (n1 n), rfl⟩⟩
  | signal a b => exact ⟨by simp [Tok.rest], .inr ⟨rfl, [true, true], rfl, two _ _ _ _ (w1 a (h a (by simp [Tok.words]))) (w1 b (h b (by simp [Tok.words]))), rfl⟩⟩
  | asked z => exact ⟨by simp [Tok.rest], .inr ⟨rfl, [true], rfl, one _ _ (w1 z (h z (by simp [Tok.words]))), rfl⟩⟩
  | set => exact ⟨by simp [Tok.rest], .inr ⟨rfl, [], rfl, fun i h1 => by simp [fms, Tok.rest] at h1, rfl⟩⟩
  | dropped n => exact ⟨by simp [Tok.rest], .inr ⟨rfl, [true], rfl, one _ _ (n1 n), rfl⟩⟩
  | noted z => exact ⟨by simp [Tok.rest], .inr ⟨rfl, [true], rfl, one _ _ (w1 z (h z (by simp [Tok.words]))), rfl⟩⟩
  | marked z => exact ⟨by simp [Tok.rest], .inr ⟨rfl, [true], rfl, one _ _ (w1 z (h z (by simp [Tok.words]))), rfl⟩⟩
  | ended z => exact ⟨by simp [Tok.rest], .inr ⟨rfl, [true], rfl, one _ _ (w1 z (h z (by simp [Tok.words]))), rfl⟩⟩
  | anew z => exact ⟨by simp [Tok.rest], .inr ⟨rfl, [true], rfl, one _ _ (w1 z (h z (by simp [Tok.words]))), rfl⟩⟩
theorem forms_short : FormsAs (.begin "a") [] false := ⟨by decide, .inl ⟨by decide, rfl⟩⟩
theorem forms_flag : FormsAs (.rang 0) [.bl true] false := ⟨by decide, .inr ⟨rfl, [false], rfl, fun i h1 h2 h3 => by
  match i with
  | 0 => exact Fit.flag true
  | j + 1 => simp only [List.length_cons, List.length_nil] at h2; omega, rfl⟩⟩
theorem isW_A : isWord "A" = false := by decide +kernel
theorem isW_b : isWord "b" = true := by decide +kernel
theorem forms_word : FormsAs (.signal "a" "b") [.str "A", .str "b"] false := ⟨by decide, .inr ⟨rfl, [false, true], rfl, fun i h1 h2 h3 => by
  match i with
  | 0 =>
    have := Fit.word "A" (by decide +kernel)
    rwa [isW_A] at this
  | 1 =>
    have := Fit.word "b" (by decide +kernel)
    rwa [isW_b] at this
  | j + 2 => simp only [List.length_cons, List.length_nil] at h2; omega, rfl⟩⟩
section
variable {P : Program} {w : World} {K : PySem.W.Frag} {mg : Str → Option Value} {base : Heap}
theorem ok_has_form {f : Addr} {fd : FuncData} (F : FnP K "has_form" "has_form" s_has_form f fd) (T : Tx w K mg) (G_fits : Def P w K mg base CX0 2 "fits" p_fits spFits) : FnOk P w K mg base CX0 3 f fd p_has_form (spHasForm K) := by
  refine F.ok sc_has_form (fun vs H Q E h => ?_) (fun cdv A outer s H vs Q E hr h => ?_)
  · obtain ⟨v, o, rfl, _⟩ := h
    rfl
  · obtain ⟨v, o, rfl, hv, k⟩ := h
    refine ⟨_, PSs.nox (pss_cons (ps_if (PW.pt (pw_or (pt_not (pt_val (pe_callB call_isi (by rfl) T.b_isinstance (by decide +kernel) (pa_cons (pv 0) (pa_cons (pe_bltn (v := .ty "tuple") (u := .type "tuple") (by rfl) T.b_tuple (by decide +kernel) rfl) pa_nil))))) (pw_or (pt_cmpR op_eq (pe_callB call_len_seq (by rfl) T.b_len PySem.boot_len (pa_cons (pv 0) pa_nil)) pe_int (nomark _)) (pw_or1 (pt_not (pt_val (pe_callB call_isi (by rfl) T.b_isinstance (by decide +kernel) (pa_cons (pe_ix ix_tup (pv 0) pe_int (fun _ _ => rfl)) (pa_cons (pe_bltn (v := .ty "str") (u := .type "str") (by rfl) T.b_str (by decide +kernel) rfl) pa_nil))))))))) (pss_one (ps_ret pe_bl)) pss_nil)
      (C8.pss_cut (ps_if (pt_cmpR (op_in_kd' T.D_OUTER_FORMS) (pe_ix ix_tup (pv 0) pe_int (fun _ _ => rfl)) (pe_ref (by rfl) T.m_OUTER_FORMS) (by rfl)) (pss_one (ps_set (i := 1) sc_has_form.nd rfl (.inl rfl) (pe_ix ix_kdict (pe_ref (by rfl) T.m_OUTER_FORMS) (pe_ix ix_tup (pv 0) pe_int (fun _ _ => rfl)) (fun _ _ => rfl)))) (pss_one (ps_if (pt_cmpR (op_in_kd' T.D_COMMAND_FORMS) (pe_ix ix_tup (pv 0) pe_int (fun _ _ => rfl)) (pe_ref (by rfl) T.m_COMMAND_FORMS) (by rfl)) (pss_one (ps_set (i := 1) sc_has_form.nd rfl (.inl rfl) (pe_ix ix_kdict (pe_ref (by rfl) T.m_COMMAND_FORMS) (pe_ix ix_tup (pv 0) pe_int (fun _ _ => rfl)) (fun _ _ => rfl)))) (pss_one (ps_ret pe_bl)))))
      (pss_cons (ps_if (pt_cmpR op_ne (pe_callB call_len_seq (by rfl) T.b_len PySem.boot_len (pa_cons (pv 0) pa_nil)) (pe_op op_add pe_int (pe_callB call_len_seq (by rfl) T.b_len PySem.boot_len (pa_cons (pv 1) pa_nil))) (nomark _)) (pss_one (ps_ret pe_bl)) pss_nil)
      (pss_one (ps_ret (pe_callB (cr_all rfl) (by rfl) T.b_all (by decide +kernel) (pa_cons (pe_lc (own := [("form", 2), ("part", 3)]) (g := (gTup K 2 (gCons (gName 2) (gCons (gName 3) gNil)))) (by rfl) sc_has_form.nd (RZ.pi_zipA (by rfl) T.b_zip (pa_cons (pv 1) (pa_cons (pe_slice sl_tup (pv 0) (po_some pe_int) po_none) pa_nil))) (blkOk_by (N := n_has_form) (sc := defScope s_has_form) (by decide +kernel)) (fun _ _ _ _ _ => (pg_tup (by rfl) (pgs_cons (pg_name (i := 2) sc_has_form.nd rfl (.inl rfl)) (pgs_cons (pg_name (i := 3) sc_has_form.nd rfl (.inl rfl)) pgs_nil)))) (fun _ _ _ _ _ => pts_nil) (fun _ _ _ _ _ => (pe_fn G_fits (hr.mono (by decide)) (by rfl) pass0 (pa_cons (pv 2) (pa_cons (pv 3) pa_nil))))) pa_nil))))))), ?_⟩
    have key : (v = .non ∧ o = none) ∨ (∃ a xs, v = .ref a ∧ SqL K H a xs ∧ o = none) ∨ ∃ (a : Addr) (t0 : Tok) (rs : List V), v = .ref a ∧ SqT K H a (.str t0.head :: rs) ∧ FormsAs t0 rs o.isSome := by
      cases o with
      | some t =>
        obtain ⟨⟨a, e, ha⟩, hw⟩ := hv
        exact .inr (.inr ⟨a, t, t.rest, e, ha, forms_good hw⟩)
      | none =>
        cases (show Bad K H v from hv) with
        | non => exact .inl ⟨rfl, rfl⟩
        | lst h => exact .inr (.inl ⟨_, _, rfl, h, rfl⟩)
        | short h => exact .inr (.inr ⟨_, .begin "a", [], rfl, h, forms_short⟩)
        | flag h => exact .inr (.inr ⟨_, .rang 0, _, rfl, h, forms_flag⟩)
        | word h => exact .inr (.inr ⟨_, .signal "a" "b", _, rfl, h, forms_word⟩)
    rcases key with ⟨rfl, rfl⟩ | ⟨a, xs, rfl, ha, rfl⟩ | ⟨a, t0, rs, rfl, ha, hb⟩
    · refine ⟨_, rfl, .non, .ty "tuple", _, _, false, rfl, .ty _, .base .non, kit_ty (by decide +kernel), _, rfl, ?_⟩
      refine iteT ?_
      exact k H (Same.refl H)
    · refine ⟨_, rfl, .ref a, .ty "tuple", _, _, false, rfl, .ty _, tyL ha, kit_ty (by decide +kernel), _, rfl, ?_⟩
      refine iteT ?_
      exact k H (Same.refl H)
    · obtain ⟨hl, hb⟩ := hb
      refine ⟨_, rfl, .ref a, .ty "tuple", _, _, true, rfl, .ty _, tyT ha, kit_ty (by decide +kernel), _, rfl, ?_⟩
      refine iteF ⟨_, rfl, a, _, rfl, .inr ha, rfl, _, rfl, ?_⟩
      have e0 : decide (V.int ((V.str t0.head :: rs).length : Int) = V.int 0) = false := decide_eq_false (fun z => by
        injection z with z
        simp only [List.length_cons] at z
        omega)
      refine iteF' e0 ?_
      refine ⟨_, rfl, a, _, _, .str t0.head, rfl, rfl, ha, at0, .str t0.head, .ty "str", _, _, true, rfl, .ty _, .base (.str _), kit_ty (by decide +kernel), _, rfl, ?_⟩
      refine iteF ?_
      refine ⟨fun σ' H' => H' = H ∧ ∃ p, (∀ H, SqT K H p (fms t0)) ∧ σ' = [some (.ref a), some (.ref p), none, none], ?_, ?_⟩
      · cases eo : t0.outer with
        | true =>
          obtain ⟨p, e1, e2⟩ := T.hd.out t0 eo
          refine ⟨_, rfl, a, _, _, .str t0.head, rfl, rfl, ha, at0, _, _, rfl, rfl, e1, _, rfl, ?_⟩
          refine iteT ⟨_, rfl, a, _, _, .str t0.head, rfl, rfl, ha, at0, _, _, .ref p, rfl, rfl, kdct T.D_OUTER_FORMS e1 rfl, ?_⟩
          exact ⟨rfl, p, e2, rfl⟩
        | false =>
          obtain ⟨p, e1, e2⟩ := T.hd.com t0 eo
          refine ⟨_, rfl, a, _, _, .str t0.head, rfl, rfl, ha, at0, _, _, rfl, rfl, T.hd.noOut t0 eo, _, rfl, ?_⟩
          refine iteF ⟨_, rfl, a, _, _, .str t0.head, rfl, rfl, ha, at0, _, _, rfl, rfl, e1, _, rfl, ?_⟩
          refine iteT ⟨_, rfl, a, _, _, .str t0.head, rfl, rfl, ha, at0, _, _, .ref p, rfl, rfl, kdct T.D_COMMAND_FORMS e1 rfl, ?_⟩
          exact ⟨rfl, p, e2, rfl⟩
      · rintro σ' H' ⟨rfl, p, hp, rfl⟩
        refine ⟨_, rfl, a, _, rfl, .inr ha, _, rfl, p, _, rfl, .inr (hp _), _, _, rfl, rfl, rfl, _, rfl, ?_⟩
        rcases hb with ⟨h1, h2⟩ | ⟨h1, bs, h2, h3, h4⟩
        · have e1 : (!decide (V.int ((V.str t0.head :: rs).length : Int) = V.int (1 + ((fms t0).length : Int)))) = true := by
            rw [decide_eq_false (fun z => by
              injection z with z
              simp only [List.length_cons] at z
              omega)]
            rfl
          refine iteT' e1 ?_
          rw [← h2]
          exact k _ (Same.refl _)
        · have e1 : (!decide (V.int ((V.str t0.head :: rs).length : Int) = V.int (1 + ((fms t0).length : Int)))) = false := by
            rw [decide_eq_true (by
              congr 1
              simp only [List.length_cons]
              omega)]
            rfl
          refine iteF' e1 ?_
          refine ⟨_, rfl, _, rfl, 1, rfl, a, _, rfl, ha, ?_, fun q nq => ?_⟩
          · rintro ⟨z, _⟩
            simp [HT.sIx] at z
          have ec : cutV (.str t0.head :: rs) (some 1) none = rs := by
            unfold cutV
            simp [HT.sIx]
          rw [ec]
          refine ⟨p, q, fms t0, rs, rfl, .inr ⟨hp _, SqT.of upd_same, fun D nD => ?_⟩⟩
          have ff : (fms t0).length = rs.length := h1.symm
          generalize eH : upd H' q (.tup rs) = H1
          rw [eH] at nD
          have hq : SqT K H1 q rs := SqT.of (by rw [← eH]; exact upd_same)
          have S1 : Same H' H1 := by rw [← eH]; exact Same.new nq
          refine lc_it (walk_zipT (K := K) (a := p) (b := q) (xs := fms t0) (ys := rs) (n := rs.length) (by rw [ff]; simp)) (fun i H2 => Same H1 H2 ∧ H2 D = some (.lst ((bs.take i).map V.bl))) ⟨Same.new nD, upd_same⟩
            (fun i H2 _ q2 => ⟨hp _, sameT q2.1 hq⟩) (fun i x H2 H3 hi p2 y => ?_) (fun H2 p2 => ?_)
          · obtain ⟨T1, fm, v, rfl, nT, rfl, hx, hy⟩ := y
            obtain ⟨S2, hD⟩ := p2
            have i1 : i < (fms t0).length := by omega
            have i3 : i < bs.length := by omega
            have hx' : (fms t0)[i]? = some fm := hx
            have hy' : rs[i]? = some v := hy
            rw [List.getElem?_eq_getElem i1] at hx'
            rw [List.getElem?_eq_getElem hi] at hy'
            cases hx'
            cases hy'
            refine ⟨T1, _, rfl, SqT.of upd_same, rfl, _, _, rfl, _, _, rfl, rfl, rfl, ?_⟩
            refine tYes_ ?_
            refine iteT ?_
            refine ⟨_, rfl, _, rfl, _, _, _, rfl, h3 i i1 hi i3, fun H4 S4 => ?_⟩
            have hD4 : H4 D = some (.lst ((bs.take i).map V.bl)) := S4 _ _ (by rw [upd_ne (ne_of_none hD nT)]; exact hD)
            refine ⟨_, hD4, ?_, fun b o hb => ?_, ?_⟩
            · rw [List.length_map, List.length_take]
              exact small1000 (by omega)
            · have nb : b ≠ D := fun z => by rw [z, nD] at hb; cases hb
              rw [upd_ne nb]
              exact S4 _ _ (by rw [upd_ne (ne_of_none (S2 _ _ hb) nT)]; exact S2 _ _ hb)
            · rw [upd_same, take_more (List.getElem?_eq_getElem i3), List.map_append]
              rfl
          · obtain ⟨S2, hD⟩ := p2
            refine ⟨D, bs, rfl, SqL.of ?_, ?_⟩
            · rw [hD, ← h2, List.take_length]
            · rw [← h4]
              exact k _ (S1.trans S2)
end
end K13

set_option Elab.async false
set_option maxRecDepth 100000
set_option maxHeartbeats 4000000
set_option linter.all false
namespace K13
open PySem PySem.Spec PyProof.Rows L2
def spIsOuter (K : PySem.W.Frag) : Sp := fun vs H Q _ => ∃ (v : V) (t : Tok), vs = [v] ∧ TokAt K H v t ∧ Q (.bl t.outer) H
abbrev nats (ns : List Nat) : List V := ns.map fun n : Nat => V.int (n : Int)
def spPlace (K : PySem.W.Frag) : Sp := fun vs H Q _ => ∃ (l : Addr) (ns : List Nat) (n : Nat), vs = [.ref l, .int n] ∧ SqL K H l (nats ns) ∧ ns.Pairwise (· < ·) ∧ n ∈ ns ∧ ns.length ≤ 1000 ∧ Q (.int (ns.idxOf n : Nat)) H
theorem srt_lt {ns : List Nat} (h : ns.Pairwise (· < ·)) {i j : Nat} (hi : i < ns.length) (hj : j < ns.length) : ns[i] < ns[j] ↔ i < j := by
  have key := List.pairwise_iff_getElem.mp h
  constructor
  · intro q
    by_cases c : i < j
    · exact c
    · rcases Nat.lt_or_eq_of_le (Nat.le_of_not_lt c) with c | c
      · have := key j i hj hi c
        omega
      · subst c
        omega
  · exact key i j hi hj
section
variable {P : Program} {w : World} {K : PySem.W.Frag} {mg : Str → Option Value} {base : Heap}
theorem ok_is_outer {f : Addr} {fd : FuncData} (F : FnP K "is_outer" "is_outer" s_is_outer f fd) (T : Tx w K mg) : FnOk P w K mg base CX0 1 f fd p_is_outer (spIsOuter K) := by
  refine F.ok sc_is_outer (fun vs H Q E h => ?_) (fun cdv A outer s H vs Q E hr h => ?_)
  · obtain ⟨v, t, rfl, _⟩ := h
    rfl
  · obtain ⟨v, t, rfl, ⟨a, rfl, ha⟩, k⟩ := h
    refine ⟨_, PSs.nox (pss_one (ps_ret (pe_cmpR (op_in_kd' T.D_OUTER_FORMS) (pe_ix ix_tup (pv 0) pe_int (fun _ _ => rfl)) (pe_ref (by rfl) T.m_OUTER_FORMS) (by rfl)))), ?_⟩
    cases eo : t.outer with
    | true =>
      rw [eo] at k
      obtain ⟨p, e1, e2⟩ := T.hd.out t eo
      exact ⟨_, rfl, a, _, _, .str t.head, rfl, rfl, ha, at0, _, _, rfl, rfl, e1, k⟩
    | false =>
      rw [eo] at k
      exact ⟨_, rfl, a, _, _, .str t.head, rfl, rfl, ha, at0, _, _, rfl, rfl, T.hd.noOut t eo, k⟩
theorem ok_place_in {f : Addr} {fd : FuncData} (F : FnP K "place_in" "place_in" s_place_in f fd) (T : Tx w K mg) : FnOk P w K mg base CX0 1 f fd p_place_in (spPlace K) := by
  refine F.ok sc_place_in (fun vs H Q E h => ?_) (fun cdv A outer s H vs Q E hr h => ?_)
  · obtain ⟨l, ns, n, rfl, _⟩ := h
    rfl
  · obtain ⟨l, ns, n, rfl, hl, srt, hm, few, k⟩ := h
    have hx := List.idxOf_lt_length_of_mem hm
    have hg : ns[ns.idxOf n] = n := List.getElem_idxOf hx
    generalize ns.idxOf n = x at hx hg k
    refine ⟨_, PSs.nox (pss_cons (ps_set (i := 2) sc_place_in.nd rfl (.inl rfl) pe_int)
      (pss_cons (ps_set (i := 3) sc_place_in.nd rfl (.inl rfl) (pe_op op_sub (pe_callB call_len_seq (by rfl) T.b_len PySem.boot_len (pa_cons (pv 0) pa_nil)) pe_int))
      (pss_cons (ps_while PassesOwn.never (pt_cmpR op_lt (pv 2) (pv 3) (nomark _)) (pss_cons (ps_set (i := 4) sc_place_in.nd rfl (.inl rfl) (pe_op op_fdivN (pe_op op_add (pv 2) (pv 3)) pe_int))
      (pss_one (ps_if (pt_cmpR op_lt (pe_ix ix_list (pv 0) (pv 4) (fun _ _ => rfl)) (pv 1) (nomark _)) (pss_one (ps_set (i := 2) sc_place_in.nd rfl (.inl rfl) (pe_op op_add (pv 4) pe_int))) (pss_one (ps_set (i := 3) sc_place_in.nd rfl (.inl rfl) (pv 4)))))))
      (pss_one (ps_ret (pv 2)))))), ?_⟩
    refine ⟨_, rfl, l, _, rfl, .inl hl, _, _, rfl, rfl, ?_⟩
    refine while_by (fun σ H' => H' = H ∧ ∃ (lo hi : Nat) (v : Option V), σ = [some (.ref l), some (.int n), some (.int lo), some (.int hi), v] ∧ lo ≤ x ∧ x ≤ hi ∧ hi < ns.length)
      (fun σ _ => match σ with
        | [_, _, some (.int lo), some (.int hi), _] => (hi - lo).toNat
        | _ => 0) ?_ ?_ ?_
    · refine ⟨rfl, 0, ns.length - 1, none, ?_, Nat.zero_le _, by omega, by omega⟩
      have e : ((nats ns).length : Int) - 1 = ((ns.length - 1 : Nat) : Int) := by
        rw [List.length_map]
        omega
      show [some (V.ref l), some (V.int n), some (V.int 0), some (V.int (((nats ns).length : Int) - 1)), none] = _
      rw [e]
      rfl
    · rintro σ H' ⟨rfl, lo, hi, v, rfl, h1, h2, h3⟩
      refine ⟨_, rfl, _, rfl, _, _, rfl, rfl, _, rfl, ?_⟩
      refine ite2 (fun c => ?_) fun c => ?_
      · have c' : (lo : Int) < hi := of_decide_eq_true c
        have em : ((lo : Int) + hi).fdiv 2 = (((lo + hi) / 2 : Nat) : Int) := by
          rw [Int.fdiv_eq_ediv_of_nonneg _ (by decide)]
          omega
        have hmid : (lo + hi) / 2 < ns.length := by omega
        refine ⟨_, rfl, _, rfl, _, _, rfl, rfl, _, _, rfl, rfl, ⟨by decide, by decide⟩, ?_⟩
        refine ⟨_, rfl, _, rfl, l, _, _, V.int (ns[(lo + hi) / 2] : Nat), rfl, rfl, hl, (by rw [em]; exact atI_nat (by simp [hmid])), _, rfl, _, _, rfl, rfl, _, rfl, ?_⟩
        have iff := srt_lt srt hmid hx
        rw [hg] at iff
        refine ite2 (fun d => ?_) fun d => ?_
        · have d' : ((ns[(lo + hi) / 2] : Nat) : Int) < (n : Nat) := of_decide_eq_true d
          have d2 := iff.mp (by omega)
          refine ⟨_, rfl, _, _, rfl, rfl, ⟨rfl, (lo + hi) / 2 + 1, hi, some (.int (((lo + hi) / 2 : Nat) : Int)), (by show [_, _, some (V.int (((lo : Int) + hi).fdiv 2 + 1)), _, some (V.int (((lo : Int) + hi).fdiv 2))] = _; rw [em]; rfl), by omega, h2, h3⟩, ?_⟩
          show ((hi : Int) - (((lo : Int) + hi).fdiv 2 + 1)).toNat < ((hi : Int) - lo).toNat
          rw [em]
          show ((hi : Int) - ((((lo + hi) / 2 : Nat) : Int) + 1)).toNat < ((hi : Int) - lo).toNat
          omega
        · have d' : ¬ ((ns[(lo + hi) / 2] : Nat) : Int) < (n : Nat) := fun z => d (decide_eq_true z)
          have d2 : ¬ (lo + hi) / 2 < x := fun z => d' (by have := iff.mpr z; omega)
          refine ⟨_, rfl, ⟨rfl, lo, (lo + hi) / 2, some (.int (((lo + hi) / 2 : Nat) : Int)), (by show [_, _, _, some (V.int (((lo : Int) + hi).fdiv 2)), some (V.int (((lo : Int) + hi).fdiv 2))] = _; rw [em]), h1, by omega, by omega⟩, ?_⟩
          show ((((lo : Int) + hi).fdiv 2) - lo).toNat < ((hi : Int) - lo).toNat
          rw [em]
          show ((((lo + hi) / 2 : Nat) : Int) - lo).toNat < ((hi : Int) - lo).toNat
          omega
      · have c' : ¬ (lo : Int) < hi := fun z => c (decide_eq_true z)
        refine ⟨_, rfl, ?_⟩
        have e : lo = x := by omega
        rw [e]
        exact k
    · rintro σ H Q Q' m ⟨a, ea, b, eb, i, j, e1, e2, b2, e3, q⟩
      exact ⟨a, ea, b, eb, i, j, e1, e2, b2, e3, m _ _ q⟩
end
end K13

set_option Elab.async false
set_option maxRecDepth 100000
set_option maxHeartbeats 4000000
set_option linter.all false
/-! what serves of the first way: lists, tokens, turns in memory -/
namespace L2
open PySem PySem.Spec PyProof.Rows
section
variable {X : Cx} {CX : CXT} {k : Nat} {C : Addr} {ps : List Str} {sp : Sp} {E : XK} {W : WX} {x : Str} {e : Expr} {es : List Expr} {t : TA} {p pos : Pos}
theorem pe_fnS (c : Def X.prog X.w X.K X.mg X.base (L2.CX X.prog X.w) k x ps sp) (hr : Room k X.A) (hg : Gl X x) (tk : Takes X W) (ha : PA X (e :: es) t)
    (hdb : (x == ("__debug__" : Str)) = false := by decide) (he : starEach (e :: es) X.env = (false, eval e X.env) :: starEach es X.env := by rfl)
    (hpl : (backTo pos (starEach es X.env)).any (·.1) = false := by rfl) : PE X (.Call (.Name x p) (e :: es) [] pos) (tCallS sp (WE W) t) := by
  obtain ⟨f, fd, hm, hk, hb, F⟩ := c.ex
  exact pe_callS F hr hg hm hk hb (fun σ => passAt tk σ) ha hdb he hpl
end
end L2
namespace K13
open PySem PySem.Spec PyProof.Rows L2
def kindAt (s : S) (n : Int) : Option V := if 0 ≤ n ∧ n.toNat ∈ s.run then (s.kinds[n.toNat]?).map (fun k => V.str (kindS k)) else none
def ageIn (ths : List Nat) (t : Tok) : Tok := match t.num? with
  | some n => t.withN (ths.idxOf n)
  | none => t
theorem srt_ge {ns : List Nat} (h : ns.Pairwise (· < ·)) : ∀ (i : Nat) (hi : i < ns.length), i ≤ ns[i]
  | 0, _ => Nat.zero_le _
  | i + 1, hi => by
    have h1 := srt_ge h i (by omega)
    have h2 := (srt_lt h (i := i) (j := i + 1) (by omega) hi).mpr (by omega)
    omega
theorem srt_few {ns : List Nat} {m : Nat} (h : ns.Pairwise (· < ·)) (f : ∀ n ∈ ns, n < m) : ns.length ≤ m := by
  rcases Nat.eq_zero_or_pos ns.length with z | z
  · omega
  · have h1 := srt_ge h (ns.length - 1) (by omega)
    have h2 := f _ (List.getElem_mem (show ns.length - 1 < ns.length by omega))
    omega
theorem upd_self {H : Hp} {a : Addr} {o : HO} (h : H a = some o) : upd H a o = H := funext fun b => by
  by_cases z : b = a
  · rw [z, upd_same, h]
  · rw [upd_ne z]
theorem seqIx {i n : Nat} (h : i < n) : seqIndex? (i : Int) n = some i := by
  unfold seqIndex?
  have h0 : ¬ (i : Int) < 0 := by omega
  have h1 : (decide (0 ≤ (i : Int)) && decide ((i : Int) < (n : Int))) = true := by
    rw [decide_eq_true (by omega), decide_eq_true (by omega)]
    rfl
  simp only [h0, if_false, h1, if_true, Int.toNat_natCast]
theorem map_eraseIdx {α β : Type} (f : α → β) : ∀ (l : List α) (i : Nat), (l.map f).eraseIdx i = (l.eraseIdx i).map f
  | [], _ => rfl
  | _ :: _, 0 => rfl
  | a :: l, i + 1 => by simp [List.eraseIdx_cons_succ, map_eraseIdx f l i]
theorem nats_erase {ns : List Nat} {n : Nat} (nd : ns.Nodup) : (nats ns).eraseIdx (ns.idxOf n) = nats (ns.filter (· != n)) := by
  rw [← nd.erase_eq_filter n, List.erase_eq_eraseIdx_of_idxOf (i := ns.idxOf n) rfl]
  exact map_eraseIdx _ _ _
theorem srt_nodup {ns : List Nat} (h : ns.Pairwise (· < ·)) : ns.Nodup := h.imp (fun {a b} (q : a < b) => Nat.ne_of_lt q)
theorem nats_get {ns : List Nat} {i : Nat} {x : V} (h : (nats ns)[i]? = some x) : ∃ n, ns[i]? = some n ∧ x = V.int (n : Nat) := by
  rw [List.getElem?_map] at h
  cases e : ns[i]? with
  | none => rw [e] at h; cases h
  | some n => rw [e] at h; exact ⟨n, rfl, (Option.some.inj h).symm⟩
def tail2 (t : Tok) : List V := t.rest.drop 1
theorem vals_num {t : Tok} {n : Nat} (e : t.num? = some n) : t.vals = .str t.head :: .int n :: tail2 t := by
  cases t <;> simp_all [Tok.num?, Tok.vals, Tok.rest, Tok.head, tail2]
theorem vals_with {t : Tok} {n : Nat} (e : t.num? = some n) (a : Nat) : (t.withN a).vals = .str t.head :: .int a :: tail2 t := by
  cases t <;> simp_all [Tok.num?, Tok.vals, Tok.rest, Tok.head, tail2, Tok.withN]
theorem tail2_len (t : Tok) : (tail2 t).length ≤ 1 := by
  cases t <;> simp [tail2, Tok.rest]
theorem cut2 {x y : V} {r : List V} : cutV (x :: y :: r) (some 2) none = r := by
  unfold cutV
  simp [HT.sIx]
theorem notwhole2 {x y : V} {r : List V} : ¬ (HT.sIx (x :: y :: r).length 0 (some 2) = 0 ∧ HT.sIx (x :: y :: r).length (x :: y :: r).length none = (x :: y :: r).length) := by
  rintro ⟨z, _⟩
  simp [HT.sIx] at z
def mayO (s : S) : Option Tok → Bool
  | some t => may s t
  | none => false
theorem dec_str (x y : Str) : decide (V.str x = V.str y) = (x == y) := by
  by_cases h : x = y
  · subst h; simp
  · rw [decide_eq_false (fun z => h (by injection z)), beq_eq_false_iff_ne.mpr h]
theorem dec_begin (t : Tok) : decide (V.str t.head = V.str "begin") = t.isBegin := by
  rw [dec_str]
  have h1 : (("begin" : Str) == "begin") = true := by decide +kernel
  have h2 : (("answer" : Str) == "begin") = false := by decide +kernel
  have h3 : (("rang" : Str) == "begin") = false := by decide +kernel
  have h4 : (("signal" : Str) == "begin") = false := by decide +kernel
  have h5 : (("asked" : Str) == "begin") = false := by decide +kernel
  have h6 : (("set" : Str) == "begin") = false := by decide +kernel
  have h7 : (("dropped" : Str) == "begin") = false := by decide +kernel
  have h8 : (("noted" : Str) == "begin") = false := by decide +kernel
  have h9 : (("marked" : Str) == "begin") = false := by decide +kernel
  have h10 : (("ended" : Str) == "begin") = false := by decide +kernel
  have h11 : (("anew" : Str) == "begin") = false := by decide +kernel
  cases t <;> assumption
theorem dec_len (n : Nat) : decide (V.int (n : Nat) = V.int 0) = (n == 0) := by
  cases n with
  | zero => rfl
  | succ m =>
    rw [decide_eq_false (fun z => by injection z with z; omega)]
    rfl
theorem ks1 : (("timer" : Str) == "ask") = false := by decide +kernel
theorem ks2 : (("ask" : Str) == "timer") = false := by decide +kernel
theorem in_nms {s : S} {t : Tok} {n : Nat} (e : t.num? = some n) (g : Good s) : inV ((kindAt s n).getD .non) (nms t) = kindOk s t := by
  have h0 : (0 : Int) ≤ (n : Nat) := by omega
  have hk : kindAt s (n : Nat) = if n ∈ s.run then (s.kinds[n]?).map (fun k => V.str (kindS k)) else none := by
    unfold kindAt
    simp [h0]
  rw [hk]
  by_cases hm : n ∈ s.run
  · rw [if_pos hm]
    obtain ⟨b, hb⟩ : ∃ b, s.kinds[n]? = some b := ⟨_, List.getElem?_eq_getElem (g.few' n hm)⟩
    rw [hb]
    have hc : s.run.contains n = true := by simpa using hm
    cases t <;> simp [Tok.num?] at e <;> subst e <;> simp only [kindOk, hc, hb, Bool.true_and, Option.map_some, Option.getD_some, nms] <;> cases b <;> decide +kernel
  · rw [if_neg hm]
    have hc : s.run.contains n = false := by simpa using hm
    cases t <;> simp [Tok.num?] at e <;> subst e <;> simp only [kindOk, hc, Bool.false_and, Option.getD_none, nms] <;> decide +kernel
theorem valV_dropK {kvs : List (Key × V)} (k j : Key) : valV (dropK kvs k) j = if j = k then none else valV kvs j := by
  induction kvs with
  | nil => simp [dropK, valV]
  | cons p r ih =>
    by_cases h : p.1 = k
    · rw [dropK_pos h, ih]
      by_cases hj : j = k
      · rw [if_pos hj, if_pos hj]
      · rw [if_neg hj, if_neg hj]
        have : ¬ p.1 = j := fun z => hj (z.symm.trans h)
        obtain ⟨k1, v1⟩ := p
        exact (valV_neg this).symm
    · have e : dropK (p :: r) k = p :: dropK r k := by
        unfold dropK
        rw [List.filter_cons_of_pos (by simpa using h)]
      rw [e]
      obtain ⟨k1, v1⟩ := p
      by_cases hp : k1 = j
      · subst hp
        rw [valV_pos rfl, valV_pos rfl, if_neg h]
      · rw [valV_neg hp, valV_neg hp, ih]
theorem nodup_le : ∀ {l m : List Nat}, l.Nodup → (∀ x ∈ l, x ∈ m) → l.length ≤ m.length
  | [], _, _, _ => Nat.zero_le _
  | a :: l, m, nd, h => by
    have ha := h a List.mem_cons_self
    have h1 := nodup_le (l := l) (m := m.erase a) (List.nodup_cons.mp nd).2 fun x hx => by
      have hne : x ≠ a := fun z => (List.nodup_cons.mp nd).1 (z ▸ hx)
      exact (List.mem_erase_of_ne hne).mpr (h x (List.mem_cons_of_mem _ hx))
    have h2 := List.length_erase_of_mem ha
    have h3 : 0 < m.length := List.length_pos_of_mem ha
    simp only [List.length_cons]
    omega
theorem kind_start {s : S} (g : Good s) {k : Bool} {ths : List Nat} {len : Nat} {fin : Bool} (j : Int) :
    kindAt ⟨s.run ++ [s.kinds.length], s.kinds ++ [k], ths, len, fin⟩ j = if j = (s.kinds.length : Nat) then some (V.str (kindS k)) else kindAt s j := by
  unfold kindAt
  by_cases h : j = (s.kinds.length : Nat)
  · subst h
    simp
  · rw [if_neg h]
    by_cases h0 : 0 ≤ j
    · have hne : j.toNat ≠ s.kinds.length := by omega
      have hm : (j.toNat ∈ s.run ++ [s.kinds.length]) ↔ j.toNat ∈ s.run := by simp [hne]
      by_cases hr : j.toNat ∈ s.run
      · have hl := g.few' _ hr
        simp [h0, hr, List.getElem?_append_left hl]
      · simp [h0, hr, hne]
    · simp [h0]
theorem kind_none {s : S} (g : Good s) : kindAt s (s.kinds.length : Nat) = none := by
  unfold kindAt
  rw [if_neg]
  rintro ⟨_, h⟩
  have := g.few' _ h
  simp at this
theorem kind_drop {s : S} (g : Good s) {n : Nat} {ths : List Nat} {len : Nat} {fin : Bool} (j : Int) :
    kindAt ⟨s.run.erase n, s.kinds, ths, len, fin⟩ j = if j = (n : Nat) then none else kindAt s j := by
  unfold kindAt
  have nd := srt_nodup g.srr
  by_cases h : j = (n : Nat)
  · subst h
    simp [nd.mem_erase_iff]
  · rw [if_neg h]
    by_cases h0 : 0 ≤ j
    · have hne : j.toNat ≠ n := by omega
      simp [h0, nd.mem_erase_iff, hne]
    · simp [h0]
theorem last_in (t : Tok) : inV (.str t.head) [.str "ended", .str "anew"] = t.last := by
  cases t <;> simp only [Tok.head, Tok.last] <;> decide +kernel
def st1 (s : S) (t : Tok) : S := if t.outer then bt s else s
theorem st1_go (s : S) (t : Tok) : go (st1 s t) t = go s t ∧ ths0 (st1 s t) t = (st1 s t).ths := by
  unfold st1
  cases o : t.outer with
  | true => exact ⟨go_bt o, by simp [ths0, o, bt]⟩
  | false => exact ⟨rfl, by simp [ths0, o]⟩
theorem st1_kind (s : S) (t : Tok) : kindOk (st1 s t) t = kindOk s t ∧ (st1 s t).len = s.len := by
  unfold st1
  split
  · exact ⟨by cases t <;> rfl, rfl⟩
  · exact ⟨rfl, rfl⟩
inductive All2 {α β : Type} (R : α → β → Prop) : List α → List β → Prop where
  | nil : All2 R [] []
  | cons {x : α} {y : β} {xs : List α} {ys : List β} (h : R x y) (t : All2 R xs ys) : All2 R (x :: xs) (y :: ys)
namespace All2
variable {α β : Type} {R R' : α → β → Prop}
theorem len {xs : List α} {ys : List β} (h : All2 R xs ys) : xs.length = ys.length := by
  induction h with
  | nil => rfl
  | cons _ _ ih => simp [ih]
theorem get {xs : List α} {ys : List β} (h : All2 R xs ys) : ∀ {i : Nat} {x : α}, xs[i]? = some x → ∃ y, ys[i]? = some y ∧ R x y := by
  induction h with
  | nil => intro i x hx; simp at hx
  | cons h _ ih =>
    intro i x hx
    cases i with
    | zero => simp at hx; subst hx; exact ⟨_, rfl, h⟩
    | succ i => exact ih (by simpa using hx)
theorem imp {xs : List α} {ys : List β} (h : All2 R xs ys) (f : ∀ x y, x ∈ xs → R x y → R' x y) : All2 R' xs ys := by
  induction h with
  | nil => exact .nil
  | cons h _ ih => exact .cons (f _ _ List.mem_cons_self h) (ih fun x y hx => f x y (List.mem_cons_of_mem _ hx))
theorem app {xs xs' : List α} {ys ys' : List β} (h : All2 R xs ys) (h' : All2 R xs' ys') : All2 R (xs ++ xs') (ys ++ ys') := by
  induction h with
  | nil => exact h'
  | cons h _ ih => exact .cons h ih
theorem one {x : α} {y : β} (h : R x y) : All2 R [x] [y] := .cons h .nil
theorem back {xs : List α} {ys : List β} {y : β} (h : All2 R xs (ys ++ [y])) : ∃ xs0 x, xs = xs0 ++ [x] ∧ All2 R xs0 ys ∧ R x y := by
  induction ys generalizing xs with
  | nil =>
    cases h with
    | cons h t => cases t; exact ⟨[], _, rfl, .nil, h⟩
  | cons a ys ih =>
    cases h with
    | cons h t =>
      obtain ⟨xs0, x, rfl, h1, h2⟩ := ih t
      exact ⟨_ :: xs0, x, rfl, .cons h h1, h2⟩
end All2
def LT (K : PySem.W.Frag) (H : Hp) (r : Addr) (ts : List Tok) : Prop := ∃ xs, H r = some (.lst xs) ∧ All2 (TokAt K H) xs ts
def TurnsAt (K : PySem.W.Frag) (H : Hp) (p : Addr) (rs : List Addr) (turns : List (List Tok)) : Prop := H p = some (.lst (rs.map V.ref)) ∧ All2 (LT K H) rs turns
def Fresh (H : Hp) (p : Addr) (rs : List Addr) : Prop := H p = none ∧ (∀ r ∈ rs, H r = none) ∧ p ∉ rs ∧ rs.Nodup
theorem LT.same {K : PySem.W.Frag} {H H' : Hp} {r : Addr} {ts : List Tok} (e : Same H H') (h : LT K H r ts) : LT K H' r ts := by
  obtain ⟨xs, h1, h2⟩ := h
  exact ⟨xs, e _ _ h1, h2.imp fun x y _ => TokAt.same e⟩
theorem TurnsAt.same {K : PySem.W.Frag} {H H' : Hp} {p : Addr} {rs : List Addr} {ts : List (List Tok)} (e : Same H H') (h : TurnsAt K H p rs ts) : TurnsAt K H' p rs ts :=
  ⟨e _ _ h.1, h.2.imp fun x y _ => LT.same e⟩
theorem TokAt.stay {K : PySem.W.Frag} {H H' : Hp} {v : V} {t : Tok} (e : ∀ a xs, SqT K H a xs → SqT K H' a xs) (h : TokAt K H v t) : TokAt K H' v t := by
  obtain ⟨a, rfl, h⟩ := h
  exact ⟨a, rfl, e _ _ h⟩
theorem updT {K : PySem.W.Frag} {H : Hp} {p : Addr} {xs ys : List V} (h : H p = some (.lst xs)) {a : Addr} {zs : List V} (ht : SqT K H a zs) : SqT K (upd H p (.lst ys)) a zs := by
  rcases ht with (ht | ⟨o, ht⟩) | ht
  · exact .inl (.inl (by rw [upd_ne (ne_of ht h (by intro z; cases z))]; exact ht))
  · exact .inl (.inr ⟨o, by rw [upd_ne (ne_of ht h (by intro z; cases z))]; exact ht⟩)
  · exact .inr ht
theorem turns_new {K : PySem.W.Frag} {H : Hp} {p r : Addr} {rs : List Addr} {acc : List (List Tok)} (h : TurnsAt K H p rs acc) (hn : p ∉ rs) (nr : H r = none) :
    TurnsAt K (upd (upd H r (.lst [])) p (.lst (rs.map V.ref ++ [.ref r]))) p (rs ++ [r]) (acc ++ [[]]) := by
  have hpr : r ≠ p := (ne_of_none h.1 nr).symm
  have hp' : upd H r (.lst []) p = some (.lst (rs.map V.ref)) := by rw [upd_ne hpr.symm]; exact h.1
  refine ⟨by rw [upd_same, List.map_append]; rfl, ?_⟩
  refine All2.app (h.2.imp fun x y hx q => ?_) (All2.one ⟨[], by rw [upd_ne hpr, upd_same], .nil⟩)
  obtain ⟨xs, h1, h2⟩ := q
  have hxp : x ≠ p := fun z => hn (z ▸ hx)
  exact ⟨xs, by rw [upd_ne hxp, upd_ne (ne_of_none h1 nr)]; exact h1, h2.imp fun a b _ => TokAt.stay fun c zs hz => updT hp' (sameT (Same.new nr) hz)⟩
theorem turns_add {K : PySem.W.Frag} {H : Hp} {p r : Addr} {rs : List Addr} {acc : List (List Tok)} {l : List Tok} {ys : List V} {v : V} {t : Tok} (h : TurnsAt K H p (rs ++ [r]) (acc ++ [l])) (hn : p ∉ rs ++ [r]) (nd : (rs ++ [r]).Nodup)
    (hr : H r = some (.lst ys)) (hv : TokAt K H v t) : TurnsAt K (upd H r (.lst (ys ++ [v]))) p (rs ++ [r]) (acc ++ [l ++ [t]]) := by
  obtain ⟨h1, h2⟩ := h
  have hpr : p ≠ r := fun z => hn (by rw [z]; simp)
  refine ⟨by rw [upd_ne hpr]; exact h1, ?_⟩
  obtain ⟨rs0, r0, e, h3, ys', h4, h5⟩ := h2.back
  obtain ⟨e1, e2⟩ := List.append_inj' e rfl
  subst e1
  cases e2
  rw [hr] at h4
  cases h4
  refine All2.app (h3.imp fun x y hx q => ?_) (All2.one ⟨_, upd_same, All2.app (h5.imp fun a b _ => TokAt.stay fun c zs hz => updT hr hz) (All2.one (hv.stay fun c zs hz => updT hr hz))⟩)
  obtain ⟨xs, q1, q2⟩ := q
  have hxr : x ≠ r := fun z => by
    have := (List.nodup_append.mp nd).2.2 x hx r (by simp)
    exact this z
  exact ⟨xs, by rw [upd_ne hxr]; exact q1, q2.imp fun a b _ => TokAt.stay fun c zs hz => updT hr hz⟩
theorem TurnsAt.mem {K : PySem.W.Frag} {H : Hp} {p r : Addr} {rs : List Addr} {ts : List (List Tok)} (h : TurnsAt K H p rs ts) (hr : r ∈ rs) : ∃ xs, H r = some (.lst xs) := by
  obtain ⟨i, hi, e⟩ := List.mem_iff_getElem.mp hr
  obtain ⟨y, _, xs, q, _⟩ := h.2.get (i := i) (x := r) (by rw [List.getElem?_eq_getElem hi, e])
  exact ⟨xs, q⟩
theorem turns_last {K : PySem.W.Frag} {H : Hp} {p : Addr} {rs : List Addr} {acc : List (List Tok)} {l : List Tok} (h : TurnsAt K H p rs (acc ++ [l])) : ∃ rs0 r ys, rs = rs0 ++ [r] ∧ H r = some (.lst ys) ∧ All2 (LT K H) rs0 acc ∧ All2 (TokAt K H) ys l := by
  obtain ⟨rs0, r, e, h3, ys, h4, h5⟩ := h.2.back
  exact ⟨rs0, r, ys, e, h4, h3, h5⟩
theorem cutOn_ne (acc : List (List Tok)) (t : Tok) : cutOn acc t ≠ [] := by
  unfold cutOn
  split <;> simp
theorem go_len (s : S) (t : Tok) : (go s t).len = s.len + 1 := by
  unfold go
  split
  · rfl
  · split <;> rfl
theorem goAll_len : ∀ (ts : List Tok) (s : S), (goAll s ts).len = s.len + ts.length
  | [], s => rfl
  | t :: r, s => by rw [goAll, goAll_len r, go_len, List.length_cons]; omega
theorem goAll_app : ∀ (ts us : List Tok) (s : S), goAll s (ts ++ us) = goAll (goAll s ts) us
  | [], us, s => rfl
  | t :: r, us, s => goAll_app r us (go s t)
theorem valid_app : ∀ (ts us : List Tok) (s : S), valid s (ts ++ us) = (valid s ts && valid (goAll s ts) us)
  | [], us, s => by simp [valid, goAll]
  | t :: r, us, s => by
    show (may s t && valid (go s t) (r ++ us)) = ((may s t && valid (go s t) r) && valid (goAll (go s t) r) us)
    rw [valid_app r us, Bool.and_assoc]
theorem fold_ne (ts : List Tok) (h : ts ≠ []) : ts.foldl cutOn [] ≠ [] := by
  rcases List.eq_nil_or_concat ts with e | ⟨l, a, e⟩
  · exact absurd e h
  · rw [e, List.concat_eq_append, List.foldl_append]
    exact cutOn_ne _ _
theorem cutOn_few {acc : List (List Tok)} {n : Nat} (t : Tok) (h : acc.length ≤ n ∧ ∀ l ∈ acc, l.length ≤ n) : (cutOn acc t).length ≤ n + 1 ∧ ∀ l ∈ cutOn acc t, l.length ≤ n + 1 := by
  obtain ⟨h1, h2⟩ := h
  unfold cutOn
  split
  · refine ⟨by simp; omega, fun l hl => ?_⟩
    rcases List.mem_append.mp hl with q | q
    · have := h2 l q; omega
    · rw [List.mem_singleton.mp q]; simp
  · refine ⟨by simp; omega, fun l hl => ?_⟩
    rcases List.mem_append.mp hl with q | q
    · have := h2 l ((List.dropLast_sublist acc).subset q); omega
    · rw [List.mem_singleton.mp q]
      rcases List.eq_nil_or_concat acc with e | ⟨l', a, e⟩
      · rw [e]; simp
      · have := h2 a (by rw [e]; simp)
        rw [e]
        simp
        omega
theorem fold_few (ts : List Tok) : (ts.foldl cutOn []).length ≤ ts.length ∧ ∀ l ∈ ts.foldl cutOn [], l.length ≤ ts.length := by
  have key : ∀ (ts : List Tok) (acc : List (List Tok)) (n : Nat), (acc.length ≤ n ∧ ∀ l ∈ acc, l.length ≤ n) → (ts.foldl cutOn acc).length ≤ n + ts.length ∧ ∀ l ∈ ts.foldl cutOn acc, l.length ≤ n + ts.length := by
    intro ts
    induction ts with
    | nil => intro acc n h; exact h
    | cons t r ih =>
      intro acc n h
      have := ih (cutOn acc t) (n + 1) (cutOn_few t h)
      simp only [List.foldl_cons, List.length_cons]
      have e : n + (r.length + 1) = n + 1 + r.length := by omega
      rw [e]
      exact this
  have := key ts [] 0 ⟨by simp, by simp⟩
  simpa using this
theorem not_begin {s : S} {t : Tok} (m : may s t = true) (o : t.outer = false) : s.len ≠ 0 := by
  have := (may_kind m).2.2
  intro z
  rw [z] at this
  cases t <;> simp_all [Tok.isBegin, Tok.outer]
theorem none2 {H : Hp} {a b c : Addr} {o o' : HO} (h : upd (upd H a o) b o' c = none) : H c = none := by
  by_cases h1 : c = b
  · rw [h1, upd_same] at h
    cases h
  · rw [upd_ne h1] at h
    by_cases h2 : c = a
    · rw [h2, upd_same] at h
      cases h
    · rw [upd_ne h2] at h
      exact h
theorem none1 {H : Hp} {a c : Addr} {o : HO} (h : upd H a o c = none) : H c = none := by
  by_cases h1 : c = a
  · rw [h1, upd_same] at h
    cases h
  · rw [upd_ne h1] at h
    exact h
def spCut (K : PySem.W.Frag) : Sp := fun vs H Q _ => ∃ (h : Addr) (xs : List V) (ts : List Tok), vs = [.ref h] ∧ SqL K H h xs ∧ All2 (TokAt K H) xs ts ∧ ts ≠ [] ∧ valid s0 ts = true ∧ (∀ t ∈ ts, okW t) ∧ ts.length ≤ 400 ∧
  ∀ (H' : Hp) (p : Addr) (rs : List Addr), Same H H' → Fresh H p rs → TurnsAt K H' p rs (cutAll ts) → Q (.ref p) H'
def spAged (K : PySem.W.Frag) : Sp := fun vs H Q _ => ∃ (h : Addr) (xs : List V) (ts : List Tok), vs = [.ref h] ∧ SqL K H h xs ∧ All2 (TokAt K H) xs ts ∧ ts ≠ [] ∧ valid s0 ts = true ∧ (∀ t ∈ ts, okW t) ∧ ts.length ≤ 63 ∧
  ∀ (H' : Hp) (p : Addr) (rs : List Addr), Same H H' → Fresh H p rs → TurnsAt K H' p rs (cutAll (ageAll s0 ts)) → Q (.ref p) H'
theorem ageAll_app : ∀ (ts us : List Tok) (s : S), ageAll s (ts ++ us) = ageAll s ts ++ ageAll (goAll s ts) us
  | [], us, s => rfl
  | t :: r, us, s => by
    show age s t :: ageAll (go s t) (r ++ us) = age s t :: (ageAll (go s t) r ++ ageAll (goAll (go s t) r) us)
    rw [ageAll_app r us]
theorem ageAll_len : ∀ (ts : List Tok) (s : S), (ageAll s ts).length = ts.length
  | [], s => rfl
  | t :: r, s => by simp [ageAll, ageAll_len r]
theorem age_go {s : S} {t : Tok} : ageIn (go s t).ths t = age s t := by
  cases en : t.num? with
  | some n =>
    have es : t.start? = none := by cases t <;> simp_all [Tok.num?, Tok.start?]
    have : (go s t).ths = ths0 s t := by unfold go; rw [es, en]
    simp only [ageIn, age, en, this]
  | none => simp only [ageIn, age, en]
theorem num_ths {s : S} {t : Tok} {n : Nat} (g : Good s) (en : t.num? = some n) (k : kindOk s t = true) : n ∈ (go s t).ths := by
  have es : t.start? = none := by cases t <;> simp_all [Tok.num?, Tok.start?]
  have : (go s t).ths = ths0 s t := by unfold go; rw [es, en]
  rw [this]
  exact (g.ths0 t).2.1 n (kind_run en k)
theorem flat_R : ∀ ts : List Tok, (cutR ts).1 ++ (cutR ts).2.flatten = ts
  | [] => rfl
  | t :: r => by
    have ih := flat_R r
    cases o : t.outer with
    | true =>
      simp only [cutR, o, if_true, List.nil_append, List.flatten_cons, List.cons_append]
      rw [ih]
    | false =>
      simp only [cutR, o, Bool.false_eq_true, if_false, List.cons_append]
      rw [ih]
theorem flat_cut {ts : List Tok} (ne : ts ≠ []) (v : valid s0 ts = true) : (cutAll ts).flatten = ts := by
  cases ts with
  | nil => exact absurd rfl ne
  | cons t r =>
    have o := begin_outer v
    rw [cutAll_R o]
    have := flat_R (t :: r)
    have e4 : (cutR (t :: r)).1 = [] := by simp [cutR, o]
    rw [e4] at this
    exact this
theorem ageTurns_app : ∀ (a b : List (List Tok)) (s : S), ageTurns s (a ++ b) = ageTurns s a ++ ageTurns (goAll s a.flatten) b
  | [], b, s => rfl
  | t :: r, b, s => by
    show ageAll s t :: ageTurns (goAll s t) (r ++ b) = ageAll s t :: (ageTurns (goAll s t) r ++ ageTurns (goAll s (t ++ r.flatten)) b)
    rw [ageTurns_app r b, goAll_app]
theorem ageTurns_len : ∀ (a : List (List Tok)) (s : S), (ageTurns s a).length = a.length
  | [], s => rfl
  | t :: r, s => by simp [ageTurns, ageTurns_len r]
theorem cutAll_len (ts : List Tok) : (cutAll ts).length ≤ ts.length := (fold_few ts).1
theorem LT.beside {K : PySem.W.Frag} {H : Hp} {D r : Addr} {xs ys : List V} {ts : List Tok} (h : LT K H r ts) (hD : H D = some (.lst xs)) (n : r ≠ D) : LT K (upd H D (.lst ys)) r ts := by
  obtain ⟨zs, h1, h2⟩ := h
  exact ⟨zs, by rw [upd_ne n]; exact h1, h2.imp fun a b _ => TokAt.stay fun c zs hz => updT hD hz⟩
theorem TurnsAt.beside {K : PySem.W.Frag} {H : Hp} {D p : Addr} {rs : List Addr} {xs ys : List V} {ts : List (List Tok)} (h : TurnsAt K H p rs ts) (hD : H D = some (.lst xs)) (n : p ≠ D) (n2 : ∀ r ∈ rs, r ≠ D) : TurnsAt K (upd H D (.lst ys)) p rs ts :=
  ⟨by rw [upd_ne n]; exact h.1, h.2.imp fun x y hx q => LT.beside q hD (n2 x hx)⟩
theorem All2.tracked {K : PySem.W.Frag} {H : Hp} {rs : List Addr} {ts : List (List Tok)} (h : All2 (LT K H) rs ts) {r : Addr} (hr : r ∈ rs) : ∃ xs, H r = some (.lst xs) := by
  obtain ⟨i, hi, e⟩ := List.mem_iff_getElem.mp hr
  obtain ⟨y, _, xs, q, _⟩ := h.get (i := i) (x := r) (by rw [List.getElem?_eq_getElem hi, e])
  exact ⟨xs, q⟩
abbrev cIA (K : PySem.W.Frag) : Addr := He.ga K "InvalidArgument"
inductive NotL (K : PySem.W.Frag) (H : Hp) : V → Prop where
  | non : NotL K H .non
  | str (z : Str) : NotL K H (.str z)
  | tup {a : Addr} {xs : List V} (h : SqT K H a xs) : NotL K H (.ref a)
  | dic {a : Addr} {kvs : List (Key × V)} (h : H a = some (.dK kvs)) : NotL K H (.ref a)
theorem NotL.same {K : PySem.W.Frag} {H H' : Hp} {v : V} (e : Same H H') (h : NotL K H v) : NotL K H' v := by
  cases h with
  | non => exact .non
  | str z => exact .str z
  | tup h => exact .tup (sameT e h)
  | dic h => exact .dic (e _ _ h)
theorem NotL.ty {K : PySem.W.Frag} {H : Hp} {v : V} (h : NotL K H v) : ∃ t, TyX K H v t ∧ PySem.W.kitOne K t (.type "list") = some false := by
  cases h with
  | non => exact ⟨_, .base .non, kit_ty (by decide +kernel)⟩
  | str z => exact ⟨_, .base (.str z), kit_ty (by decide +kernel)⟩
  | tup h => exact ⟨_, tyT h, kit_ty (by decide +kernel)⟩
  | dic h => exact ⟨_, .base (.dK h), kit_ty (by decide +kernel)⟩
def TurnV (K : PySem.W.Frag) (H : Hp) (v : V) : Option (List (Option Tok)) → Prop
  | some os => ∃ r xs, v = .ref r ∧ H r = some (.lst xs) ∧ All2 (TV K H) xs os
  | none => NotL K H v
def pTurn (s : S) : Option (List (Option Tok)) → Option (S × List Tok)
  | none => none
  | some os => if os.isEmpty then none else wToks true (bt s) [] os
def osLen : Option (List (Option Tok)) → Nat
  | none => 0
  | some os => os.length
theorem byNum_words {s : S} {t u : Tok} (h : byNum s t = some u) : u.words = t.words := by
  unfold byNum at h
  split at h
  · rename_i a en
    obtain ⟨n, _, e⟩ := Option.map_eq_some_iff.mp h
    subst e
    cases t <;> simp_all [Tok.num?, Tok.withN, Tok.words]
  · cases h
    rfl
theorem raise_none {K : PySem.W.Frag} {σ : L2.St} {H0 H1 : Hp} {E : XK} (S : Same H0 H1) (k : ∀ (d0 : Addr) (H' : Hp), Same H0 H' → H0 d0 = none → H' d0 = some (.xd [("part", .str "turns")]) → E (.ref (cIA K)) (some d0) H') :
    tMkE (cIA K) ["part"] (tCons (tC (.str "turns")) tNil) σ H1 fun cls d H' => E cls d H' :=
  ⟨rfl, fun d0 H' nd hd oth => k d0 H' (fun b o hb => by
    have := S b o hb
    rw [oth b (ne_of_none this nd)]
    exact this) (S.free nd) hd⟩
def TurnsV (K : PySem.W.Frag) (H : Hp) (v : V) : Option (List (Option (List (Option Tok)))) → Prop
  | some ts => ∃ p xs, v = .ref p ∧ H p = some (.lst xs) ∧ All2 (TurnV K H) xs ts
  | none => NotL K H v
def pNum : Option (List (Option (List (Option Tok)))) → Option (List Tok)
  | none => none
  | some ts => pBack ts
def tsLen : Option (List (Option (List (Option Tok)))) → Nat
  | none => 0
  | some ts => (ts.map osLen).sum
theorem wToks_acc : ∀ (os : List (Option Tok)) (f : Bool) (s : S) (a h : List Tok), wToks f s (a ++ h) os = (wToks f s h os).map fun p => (p.1, a ++ p.2)
  | [], f, s, a, h => rfl
  | none :: r, f, s, a, h => rfl
  | some t :: r, f, s, a, h => by
    simp only [wToks]
    split
    · rfl
    · split
      · rfl
      · split
        · rw [List.append_assoc]
          exact wToks_acc r _ _ _ _
        · rfl
theorem wToks_slen : ∀ {os : List (Option Tok)} {f : Bool} {s s' : S} {h h' : List Tok}, wToks f s h os = some (s', h') → s'.len = s.len + os.length
  | [], _, _, _, _, _, e => by
    simp only [wToks, Option.some.injEq, Prod.mk.injEq] at e
    rw [← e.1]; rfl
  | none :: _, _, _, _, _, _, e => by simp [wToks] at e
  | some t :: r, f, s, s', h, h', e => by
    simp only [wToks] at e
    split at e
    · cases e
    · split at e
      · cases e
      · split at e
        · have := wToks_slen e
          rw [go_len] at this
          simp only [List.length_cons]
          omega
        · cases e
theorem pTurn_slen {s s' : S} {o : Option (List (Option Tok))} {us : List Tok} (h : pTurn s o = some (s', us)) : s'.len = s.len + osLen o := by
  cases o with
  | none => cases h
  | some os =>
    unfold pTurn at h
    simp only at h
    split at h
    · cases h
    · have := wToks_slen h
      exact this
theorem walk_cons (s : S) (h : List Tok) (o : Option (List (Option Tok))) (r : List (Option (List (Option Tok)))) :
    wWalk true s h (o :: r) = match pTurn s o with | none => none | some (s', us) => wWalk true s' (h ++ us) r := by
  cases o with
  | none => rfl
  | some os =>
    simp only [wWalk, pTurn, Bool.true_and]
    cases e : os.isEmpty with
    | true => simp
    | false =>
      simp only [Bool.false_eq_true, if_false]
      have := wToks_acc os true (bt s) h []
      rw [List.append_nil] at this
      rw [this]
      cases wToks true (bt s) [] os with
      | none => rfl
      | some p => rfl
theorem sum_take {l : List Nat} {i x : Nat} (h : l[i]? = some x) : (l.take i).sum + x ≤ l.sum := by
  have hl : i < l.length := (List.getElem?_eq_some_iff.mp h).1
  have e := List.take_append_drop i l
  have e2 : l.drop i = x :: l.drop (i + 1) := by
    rw [List.drop_eq_getElem_cons hl]
    congr 1
    exact (List.getElem?_eq_some_iff.mp h).2
  have e3 : ((l.take i) ++ l.drop i).sum = l.sum := by rw [e]
  rw [e2, List.sum_append, List.sum_cons] at e3
  omega
end K13

set_option Elab.async false
set_option maxRecDepth 100000
set_option maxHeartbeats 4000000
set_option linter.all false
/-! going over a history, and numbering it anew: the mathematics -/
namespace K13
open PySem PySem.Spec PyProof.Rows L2
/-- the place of the first token that may not stand there -/
def gone (s : S) (i : Nat) : List (Option Tok) → Option Nat
  | [] => none
  | none :: _ => some i
  | some t :: r => if may s t then gone (go s t) (i + 1) r else some i
def fv : Option Nat → V
  | none => .non
  | some i => .int (i : Nat)
theorem gone_some : ∀ (ts : List Tok) (s : S) (i : Nat), (gone s i (ts.map some) = none) ↔ valid s ts = true
  | [], s, i => by simp [gone, valid]
  | t :: r, s, i => by
    simp only [List.map_cons, gone, valid]
    cases h : may s t with
    | true => simpa using gone_some r (go s t) (i + 1)
    | false => simp
/-- the things with an age, those that were named in the turn, and how many were started -/
structure R where
  ths : List Nat
  lost : List Nat
  st : Nat
def r0 : R := ⟨[], [], 0⟩
def rNew (r : R) (t : Tok) : R := if t.outer then ⟨r.ths.filter (fun n => !r.lost.contains n), [], r.st⟩ else r
def rAdd (r : R) (t : Tok) : R := match t.start? with
  | some _ => ⟨r.ths ++ [r.st], r.lost, r.st + 1⟩
  | none => r
def putL (l : List Nat) (n : Nat) : List Nat := if l.contains n then l else l ++ [n]
def rEnd (r : R) (n : Nat) : R := { r with lost := putL r.lost n }
def rOne (b : Bool) (r : R) (t : Tok) : Option (R × Tok) := match t.num? with
  | none => some (rAdd (rNew r t) t, t)
  | some a => if b then some (rEnd (rAdd (rNew r t) t) a, t.withN ((rAdd (rNew r t) t).ths.idxOf a)) else
    match (rAdd (rNew r t) t).ths[a]? with
    | none => none
    | some n => some (rEnd (rAdd (rNew r t) t) n, t.withN n)
def rAll (b : Bool) (r : R) : List Tok → Option (List Tok)
  | [] => some []
  | t :: ts => match rOne b r t with
    | none => none
    | some (r', u) => (rAll b r' ts).map (u :: ·)
/-- what must hold so that nothing is raised -/
def rPre (b : Bool) (r : R) : List Tok → Prop
  | [] => True
  | t :: ts => (t.outer = true → r.lost.length < 64) ∧ (b = true → ∀ n, t.num? = some n → n ∈ (rAdd (rNew r t) t).ths) ∧ ∀ r' u, rOne b r t = some (r', u) → rPre b r' ts
structure RI (r : R) : Prop where
  srt : r.ths.Pairwise (· < ·)
  few : ∀ n ∈ r.ths, n < r.st
  nd : r.lost.Nodup
  sub : ∀ n ∈ r.lost, n ∈ r.ths
theorem ri0 : RI r0 := ⟨by simp [r0], by simp [r0], by simp [r0], by simp [r0]⟩
theorem RI.new {r : R} (h : RI r) (t : Tok) : RI (rNew r t) := by
  unfold rNew
  split
  · exact ⟨h.srt.sublist List.filter_sublist, fun n hn => h.few n (List.mem_filter.mp hn).1, List.nodup_nil, by simp⟩
  · exact h
theorem RI.add {r : R} (h : RI r) (t : Tok) : RI (rAdd r t) := by
  unfold rAdd
  split
  · refine ⟨List.pairwise_append.mpr ⟨h.srt, by simp, fun a ha b hb => ?_⟩, fun n hn => ?_, h.nd, fun n hn => List.mem_append_left _ (h.sub n hn)⟩
    · rw [List.mem_singleton.mp hb]; exact h.few a ha
    · show n < r.st + 1
      rcases List.mem_append.mp hn with q | q
      · have := h.few n q; omega
      · rw [List.mem_singleton.mp q]; omega
  · exact h
theorem mem_putL {l : List Nat} {n m : Nat} : m ∈ putL l n ↔ m ∈ l ∨ m = n := by
  unfold putL
  split
  · rename_i c
    have : n ∈ l := by simpa using c
    constructor
    · exact .inl
    · rintro (q | q)
      · exact q
      · rw [q]; exact this
  · simp
theorem putL_nd {l : List Nat} {n : Nat} (h : l.Nodup) : (putL l n).Nodup := by
  unfold putL
  split
  · exact h
  · rename_i c
    have : n ∉ l := by simpa using c
    exact List.nodup_append.mpr ⟨h, by simp, fun x hx y hy z => by
      rw [List.mem_singleton.mp hy] at z
      exact this (z ▸ hx)⟩
theorem RI.end' {r : R} (h : RI r) {n : Nat} (hn : n ∈ r.ths) : RI (rEnd r n) :=
  ⟨h.srt, h.few, putL_nd h.nd, fun m hm => by
    rcases mem_putL.mp hm with q | q
    · exact h.sub m q
    · rw [q]; exact hn⟩
theorem rOne_ri {b : Bool} {r r' : R} {t u : Tok} (h : RI r) (hp : b = true → ∀ n, t.num? = some n → n ∈ (rAdd (rNew r t) t).ths) (e : rOne b r t = some (r', u)) : RI r' := by
  unfold rOne at e
  have h2 := (h.new t).add t
  split at e
  · cases e; exact h2
  · rename_i a en
    split at e
    · rename_i hb
      cases e
      exact h2.end' (hp hb a en)
    · split at e
      · cases e
      · rename_i n hn
        cases e
        exact h2.end' (List.mem_of_getElem? hn)
theorem rOne_st {b : Bool} {r r' : R} {t u : Tok} (e : rOne b r t = some (r', u)) : r'.st ≤ r.st + 1 := by
  have h1 : (rNew r t).st = r.st := by unfold rNew; split <;> rfl
  have h2 : (rAdd (rNew r t) t).st ≤ r.st + 1 := by
    unfold rAdd
    split
    · show (rNew r t).st + 1 ≤ _; omega
    · omega
  unfold rOne at e
  split at e
  · cases e; exact h2
  · split at e
    · cases e; exact h2
    · split at e
      · cases e
      · cases e; exact h2
theorem rAll_len {b : Bool} : ∀ {ts us : List Tok} {r : R}, rAll b r ts = some us → us.length = ts.length
  | [], us, r, e => by simp [rAll] at e; simp [e]
  | t :: ts, us, r, e => by
    simp only [rAll] at e
    split at e
    · cases e
    · obtain ⟨vs, h1, h2⟩ := Option.map_eq_some_iff.mp e
      rw [← h2]
      simp [rAll_len h1]
/-! ### a state of both ways -/
structure Co (s : S) (r : R) : Prop where
  gd : Good s
  ths : r.ths = s.ths
  st : r.st = s.kinds.length
  nd : r.lost.Nodup
  lost : ∀ n ∈ s.ths, n ∈ r.lost ↔ n ∉ s.run
  sub : ∀ n ∈ r.lost, n ∈ s.ths
theorem co0 : Co s0 r0 := ⟨good0, rfl, rfl, by simp [r0], by simp [s0], by simp [r0]⟩
theorem Co.ri {s : S} {r : R} (c : Co s r) : RI r := ⟨by rw [c.ths]; exact c.gd.srt, by rw [c.ths, c.st]; exact c.gd.few, c.nd, by rw [c.ths]; exact c.sub⟩
theorem srt_ext : ∀ {l m : List Nat}, l.Pairwise (· < ·) → m.Pairwise (· < ·) → (∀ x, x ∈ l ↔ x ∈ m) → l = m
  | [], [], _, _, _ => rfl
  | [], b :: m, _, _, h => by have := (h b).mpr List.mem_cons_self; cases this
  | a :: l, [], _, _, h => by have := (h a).mp List.mem_cons_self; cases this
  | a :: l, b :: m, h1, h2, h => by
    rw [List.pairwise_cons] at h1 h2
    have e : a = b := by
      have q1 := (h a).mp List.mem_cons_self
      have q2 := (h b).mpr List.mem_cons_self
      rcases List.mem_cons.mp q1 with q1 | q1
      · exact q1
      · rcases List.mem_cons.mp q2 with q2 | q2
        · exact q2.symm
        · have := h1.1 b q2
          have := h2.1 a q1
          omega
    subst e
    congr 1
    refine srt_ext h1.2 h2.2 fun x => ?_
    constructor
    · intro q
      rcases List.mem_cons.mp ((h x).mp (List.mem_cons_of_mem _ q)) with z | z
      · have := h1.1 x q; omega
      · exact z
    · intro q
      rcases List.mem_cons.mp ((h x).mpr (List.mem_cons_of_mem _ q)) with z | z
      · have := h2.1 x q; omega
      · exact z
theorem Co.new {s : S} {r : R} (c : Co s r) (t : Tok) : Co (st1 s t) (rNew r t) := by
  unfold st1 rNew
  cases o : t.outer with
  | false => exact c
  | true =>
    refine ⟨c.gd.bt, ?_, c.st, List.nodup_nil, fun n hn => ?_, by simp⟩
    · refine srt_ext (l := r.ths.filter (fun n => !r.lost.contains n)) (m := s.run) (c.ri.srt.sublist List.filter_sublist) c.gd.srr fun x => ?_
      show x ∈ r.ths.filter (fun n => !r.lost.contains n) ↔ x ∈ s.run
      rw [List.mem_filter, c.ths]
      constructor
      · rintro ⟨h1, h2⟩
        have h3 : x ∉ r.lost := by simpa using h2
        exact Classical.byContradiction fun z => h3 ((c.lost x h1).mpr z)
      · intro h
        have h1 := c.gd.sub x h
        refine ⟨h1, ?_⟩
        have : x ∉ r.lost := fun z => (c.lost x h1).mp z h
        simpa using this
    · have hn' : n ∈ s.run := hn
      exact ⟨fun z => by simp at z, fun z => absurd hn' z⟩
theorem Co.start {s : S} {r : R} {t : Tok} {k : Bool} (c : Co s r) (es : t.start? = some k) (et : ths0 s t = s.ths) : Co (go s t) (rAdd r t) := by
  have g := c.gd.go t
  have e1 : go s t = ⟨s.run ++ [s.kinds.length], s.kinds ++ [k], ths0 s t ++ [s.kinds.length], s.len + 1, t.last⟩ := by unfold go; rw [es]
  have e2 : rAdd r t = ⟨r.ths ++ [r.st], r.lost, r.st + 1⟩ := by unfold rAdd; rw [es]
  rw [e2]
  rw [e1, et] at g ⊢
  refine ⟨g, by rw [c.ths, c.st], by simp [c.st], c.nd, fun n hn => ?_, fun n hn => List.mem_append_left _ (c.sub n hn)⟩
  rcases List.mem_append.mp hn with q | q
  · have hl := c.gd.few n q
    rw [c.lost n q]
    constructor
    · intro z w
      rcases List.mem_append.mp w with w | w
      · exact z w
      · rw [List.mem_singleton.mp w] at hl; omega
    · exact fun z w => z (List.mem_append_left _ w)
  · have e := List.mem_singleton.mp q
    subst e
    constructor
    · intro z
      have := c.gd.few _ (c.sub _ z)
      omega
    · intro z
      exact absurd (List.mem_append_right _ (by simp)) z
theorem Co.drop {s : S} {r : R} {t : Tok} {n : Nat} (c : Co s r) (en : t.num? = some n) (et : ths0 s t = s.ths) (hn : n ∈ s.run) : Co (go s t) (rEnd r n) := by
  have es : t.start? = none := by cases t <;> simp_all [Tok.num?, Tok.start?]
  have g := c.gd.go t
  have e1 : go s t = ⟨s.run.erase n, s.kinds, ths0 s t, s.len + 1, t.last⟩ := by unfold go; rw [es, en]
  rw [e1, et] at g ⊢
  refine ⟨g, c.ths, c.st, putL_nd c.nd, fun m hm => ?_, fun m hm => ?_⟩
  · have nd := srt_nodup c.gd.srr
    show m ∈ putL r.lost n ↔ m ∉ s.run.erase n
    rw [mem_putL, nd.mem_erase_iff, c.lost m hm]
    by_cases z : m = n
    · simp [z]
    · simp [z]
  · rcases mem_putL.mp hm with q | q
    · exact c.sub m q
    · rw [q]; exact c.gd.sub n hn
theorem Co.other {s : S} {r : R} {t : Tok} (c : Co s r) (es : t.start? = none) (en : t.num? = none) (et : ths0 s t = s.ths) : Co (go s t) r := by
  have g := c.gd.go t
  have e1 : go s t = ⟨s.run, s.kinds, ths0 s t, s.len + 1, t.last⟩ := by unfold go; rw [es, en]
  rw [e1, et] at g ⊢
  exact ⟨g, c.ths, c.st, c.nd, c.lost, c.sub⟩
theorem rAdd_num {r : R} {t : Tok} {n : Nat} (en : t.num? = some n) : rAdd r t = r := by
  have es : t.start? = none := by cases t <;> simp_all [Tok.num?, Tok.start?]
  unfold rAdd; rw [es]
/-- a token that may stand: both go on together -/
theorem Co.step {s : S} {r : R} {t : Tok} (c : Co s r) (k : kindOk s t = true) : ∃ r', rOne true r t = some (r', age s t) ∧ Co (go s t) r' ∧ (∀ n, t.num? = some n → n ∈ (rAdd (rNew r t) t).ths) := by
  have c1 := c.new t
  obtain ⟨eg, et⟩ := st1_go s t
  have ek := (st1_kind s t).1
  have ea : age s t = age (st1 s t) t := by
    unfold age ths0 st1
    cases o : t.outer <;> simp [o, bt]
  rw [← ek] at k
  rw [← eg, ea]
  generalize st1 s t = s1 at *
  unfold rOne
  cases en : t.num? with
  | some n =>
    have hn := kind_run en k
    have e := rAdd_num (r := rNew r t) en
    refine ⟨rEnd (rNew r t) n, ?_, c1.drop en et hn, fun m hm => ?_⟩
    · simp only [e, if_true]
      unfold age
      rw [en]
      simp only [c1.ths, et]
    · cases hm
      rw [e, c1.ths]
      exact c1.gd.sub n hn
  | none =>
    refine ⟨rAdd (rNew r t) t, ?_, ?_, fun m hm => by cases hm⟩
    · unfold age
      rw [en]
    · cases es : t.start? with
      | some kk => exact c1.start es et
      | none =>
        have : rAdd (rNew r t) t = rNew r t := by unfold rAdd; rw [es]
        rw [this]
        exact c1.other es en et
theorem lost_few {b : Bool} {r r' : R} {t u : Tok} (e : rOne b r t = some (r', u)) : r'.lost.length ≤ (if t.outer then 0 else r.lost.length) + 1 := by
  have h1 : (rNew r t).lost.length ≤ (if t.outer then 0 else r.lost.length) := by
    unfold rNew; split <;> simp
  have h2 : (rAdd (rNew r t) t).lost = (rNew r t).lost := by
    unfold rAdd; split <;> rfl
  have h3 : ∀ (q : R) n, (rEnd q n).lost.length ≤ q.lost.length + 1 := fun q n => by
    show (putL q.lost n).length ≤ _
    unfold putL
    split
    · omega
    · simp
  unfold rOne at e
  split at e
  · cases e; rw [h2]; omega
  · split at e
    · cases e; have := h3 (rAdd (rNew r t) t) ‹_›; rw [h2] at this; omega
    · split at e
      · cases e
      · cases e; have := h3 (rAdd (rNew r t) t) ‹_›; rw [h2] at this; omega
theorem pre_true : ∀ {ts : List Tok} {s : S} {r : R}, Co s r → valid s ts = true → r.lost.length + ts.length ≤ 63 → rPre true r ts
  | [], _, _, _, _, _ => trivial
  | t :: ts, s, r, c, v, l => by
    simp only [valid, Bool.and_eq_true] at v
    obtain ⟨r', h1, h2, h3⟩   := c.step (may_kind v.1).1
    simp only [List.length_cons] at l
    refine ⟨fun _ => by omega, fun _ => h3, fun r2 u e => ?_⟩
    have e' := h1.symm.trans e
    cases e'
    have := lost_few h1
    refine pre_true h2 v.2 ?_
    split at this <;> omega
theorem all_true : ∀ {ts : List Tok} {s : S} {r : R}, Co s r → valid s ts = true → rAll true r ts = some (ageAll s ts)
  | [], _, _, _, _ => rfl
  | t :: ts, s, r, c, v => by
    simp only [valid, Bool.and_eq_true] at v
    obtain ⟨r', h1, h2, _⟩   := c.step (may_kind v.1).1
    simp only [rAll, h1, all_true h2 v.2, Option.map_some, ageAll]
/-! ### by number -/
/-- token by token, each one asked for -/
def fWalk (s : S) : List Tok → Option (List Tok)
  | [] => some []
  | t :: ts => match byNum (st1 s t) t with
    | none => none
    | some u => if may s u then (fWalk (go s u) ts).map (u :: ·) else none
theorem byNum_out {s : S} {t u : Tok} (h : byNum s t = some u) : u.outer = t.outer ∧ u.start? = t.start? ∧ (t.num? = none → u = t) ∧ ∀ a, t.num? = some a → ∃ n, s.ths[a]? = some n ∧ u = t.withN n := by
  unfold byNum at h
  split at h
  · rename_i a en
    obtain ⟨n, h1, h2⟩ := Option.map_eq_some_iff.mp h
    subst h2
    refine ⟨(withN_num en n).2.2, ?_, fun z => (by rw [en] at z; cases z), fun b hb => ?_⟩
    · cases t <;> simp_all [Tok.num?, Tok.withN, Tok.start?]
    · rw [en] at hb
      cases hb
      exact ⟨n, h1, rfl⟩
  · rename_i en
    cases h
    exact ⟨rfl, rfl, fun _ => rfl, fun a ha => by rw [en] at ha; cases ha⟩
theorem rOne_false {s : S} {r : R} {t : Tok} (c : Co s r) : (rOne false r t).map Prod.snd = byNum (st1 s t) t := by
  have c1 := c.new t
  unfold rOne byNum
  cases en : t.num? with
  | none => rfl
  | some a =>
    simp only [Bool.false_eq_true, if_false, rAdd_num en, c1.ths]
    cases (st1 s t).ths[a]? <;> rfl
theorem Co.back {s : S} {r r' : R} {t u : Tok} (c : Co s r) (h : rOne false r t = some (r', u)) (m : may s u = true) : Co (go s u) r' := by
  have hb : byNum (st1 s t) t = some u := by rw [← rOne_false c, h]; rfl
  obtain ⟨h1, h2, h3, h4⟩ := byNum_out hb
  have c1 := c.new t
  have e1 : st1 s t = st1 s u := by unfold st1; rw [h1]
  obtain ⟨eg, et⟩ := st1_go s u
  have k := (may_kind m).1
  rw [← (st1_kind s u).1] at k
  rw [← eg]
  rw [e1] at c1 h4
  generalize st1 s u = s1 at *
  unfold rOne at h
  cases en : t.num? with
  | some a =>
    simp only [en, Bool.false_eq_true, if_false, rAdd_num en, c1.ths] at h
    obtain ⟨n, hn, hu⟩ := h4 a en
    simp only [hn, Option.some.injEq, Prod.mk.injEq] at h
    obtain ⟨e2, e3⟩ := h
    subst e2
    have un : u.num? = some n := by rw [hu]; exact (withN_num en n).1
    exact c1.drop un et (kind_run un k)
  | none =>
    simp only [en, Option.some.injEq, Prod.mk.injEq] at h
    obtain ⟨e2, e3⟩ := h
    subst e2 e3
    cases es : t.start? with
    | some kk => exact c1.start es et
    | none =>
      have : rAdd (rNew r t) t = rNew r t := by unfold rAdd; rw [es]
      rw [this]
      exact c1.other es en et
def chk (s : S) : Option (List Tok) → Option (List Tok)
  | some us => if valid s us then some us else none
  | none => none
theorem all_false : ∀ {ts : List Tok} {s : S} {r : R}, Co s r → chk s (rAll false r ts) = fWalk s ts
  | [], _, _, _ => rfl
  | t :: ts, s, r, c => by
    have hb := rOne_false (t := t) c
    simp only [rAll, fWalk]
    cases h : rOne false r t with
    | none =>
      rw [h] at hb
      simp only [← hb, Option.map_none, chk]
    | some p =>
      obtain ⟨r', u⟩ := p
      rw [h] at hb
      simp only [← hb, Option.map_some]
      cases m : may s u with
      | true =>
        have ih := all_false (ts := ts) (c.back h m)
        simp only [if_true]
        rw [← ih]
        cases q : rAll false r' ts with
        | none => rfl
        | some us =>
          simp only [Option.map_some, chk, valid, m, Bool.true_and]
          split <;> rfl
      | false =>
        cases q : rAll false r' ts with
        | none => rfl
        | some us =>
          simp only [Option.map_some, chk, valid, m, Bool.false_and, Bool.false_eq_true, if_false]
/-- turns as their forms tell -/
def likeT : List Tok → Bool
  | [] => false
  | t :: r => t.outer && r.all fun u => !u.outer
def likeO : Option (List (Option Tok)) → Bool
  | none => false
  | some os => os.all Option.isSome && likeT (os.filterMap id)
theorem walk_flat_in : ∀ (r : List Tok) (s : S) (h : List Tok), (r.all fun u => !u.outer) = true → (∀ ts, (wToks false s h (r.map some)).bind (fun p => (fWalk p.1 ts).map (p.2 ++ ·)) = (fWalk s (r ++ ts)).map (h ++ ·))
  | [], s, h, _, ts => by simp [wToks]
  | t :: r, s, h, o, ts => by
    simp only [List.all_cons, Bool.and_eq_true, Bool.not_eq_true'] at o
    have e1 : st1 s t = s := by unfold st1; rw [o.1]; rfl
    simp only [List.map_cons, wToks, o.1, bne_self_eq_false, Bool.false_eq_true, if_false, List.cons_append, fWalk, e1]
    cases hb : byNum s t with
    | none => rfl
    | some u =>
      simp only
      cases m : may s u with
      | false => rfl
      | true =>
        simp only [if_true]
        rw [walk_flat_in r (go s u) (h ++ [u]) o.2 ts, Option.map_map]
        congr 1
        funext l
        simp
theorem walk_flat : ∀ (tss : List (List Tok)) (s : S) (h : List Tok), (∀ ts ∈ tss, likeT ts = true) → wWalk true s h (lift tss) = (fWalk s tss.flatten).map (h ++ ·)
  | [], s, h, _ => by simp [lift, wWalk, fWalk]
  | [] :: r, s, h, hh => by have := hh [] List.mem_cons_self; cases this
  | (t :: q) :: r, s, h, hh => by
    have hl := hh (t :: q) List.mem_cons_self
    simp only [likeT, Bool.and_eq_true] at hl
    have ih := fun s h => walk_flat r s h fun ts hm => hh ts (List.mem_cons_of_mem _ hm)
    have e1 : st1 s t = bt s := by unfold st1; rw [hl.1]; rfl
    have e2 : lift ((t :: q) :: r) = some (some t :: q.map some) :: lift r := rfl
    rw [e2]
    simp only [wWalk, List.isEmpty_cons, Bool.and_false, Bool.false_eq_true, if_false, wToks, hl.1, bne_self_eq_false, List.flatten_cons, List.cons_append, fWalk, e1]
    cases hb : byNum (bt s) t with
    | none => rfl
    | some u =>
      simp only [may_bt]
      cases m : may s u with
      | false => rfl
      | true =>
        have ou : u.outer = true := by rw [(byNum_out hb).1]; exact hl.1
        simp only [if_true, go_bt ou]
        have k := walk_flat_in q (go s u) (h ++ [u]) hl.2 r.flatten
        cases w : wToks false (go s u) (h ++ [u]) (q.map some) with
        | none =>
          rw [w] at k
          simp only [Option.bind_none] at k
          rw [Option.map_map]
          have k' : fWalk (go s u) (q ++ r.flatten) = none := by
            cases z : fWalk (go s u) (q ++ r.flatten) with
            | none => rfl
            | some l => rw [z] at k; cases k
          rw [k']
          rfl
        | some p =>
          obtain ⟨s2, h2⟩ := p
          rw [w] at k
          simp only [Option.bind_some] at k
          simp only
          rw [ih, k, Option.map_map]
          congr 1
          funext l
          simp
theorem not_likeT {s : S} {h : List Tok} {ts : List Tok} (ne : likeT ts = false) : ts.isEmpty = true ∨ wToks true s h (ts.map some) = none := by
  cases ts with
  | nil => exact .inl rfl
  | cons t q =>
    right
    have in' : ∀ (q : List Tok) (s : S) (h : List Tok), (q.all fun u => !u.outer) = false → wToks false s h (q.map some) = none := by
      intro q
      induction q with
      | nil => intro s h c; cases c
      | cons t q ih =>
        intro s h c
        simp only [List.map_cons, wToks]
        cases o : t.outer with
        | true => rfl
        | false =>
          have c' : (q.all fun u => !u.outer) = false := by simpa [o] using c
          simp only [bne_self_eq_false, Bool.false_eq_true, if_false]
          split
          · rfl
          · split
            · exact ih _ _ c'
            · rfl
    simp only [List.map_cons, wToks]
    cases o : t.outer with
    | false => rfl
    | true =>
      have c' : (q.all fun u => !u.outer) = false := by simpa [likeT, o] using ne
      simp only [bne_self_eq_false, Bool.false_eq_true, if_false]
      split
      · rfl
      · split
        · exact in' _ _ _ c'
        · rfl
theorem wToks_bad : ∀ {os : List (Option Tok)} {f : Bool} {s : S} {h : List Tok}, os.all Option.isSome = false → wToks f s h os = none
  | [], _, _, _, c => by cases c
  | none :: r, _, _, _, _ => rfl
  | some t :: r, f, s, h, c => by
    have c' : r.all Option.isSome = false := by simpa using c
    simp only [wToks]
    split
    · rfl
    · split
      · rfl
      · split
        · exact wToks_bad c'
        · rfl
theorem all_some : ∀ {os : List (Option Tok)}, os.all Option.isSome = true → (os.filterMap id).map some = os
  | [], _ => rfl
  | none :: r, c => by simp at c
  | some t :: r, c => by
    have c' : r.all Option.isSome = true := by simpa using c
    simp [all_some c']
theorem walk_bad : ∀ (ts : List (Option (List (Option Tok)))) (s : S) (h : List Tok), ts.all likeO = false → wWalk true s h ts = none
  | [], _, _, c => by cases c
  | none :: r, _, _, _ => rfl
  | some os :: r, s, h, c => by
    simp only [wWalk]
    cases em : os.isEmpty with
    | true => rfl
    | false =>
      simp only [Bool.true_and, Bool.false_eq_true, if_false]
      cases lo : likeO (some os) with
      | true =>
        have c' : r.all likeO = false := by simpa [lo] using c
        split
        · rfl
        · exact walk_bad r _ _ c'
      | false =>
        have : wToks true (bt s) h os = none := by
          cases al : os.all Option.isSome with
          | false => exact wToks_bad al
          | true =>
            have lt : likeT (os.filterMap id) = false := by simpa [likeO, al] using lo
            have e := all_some al
            rcases not_likeT (s := bt s) (h := h) lt with z | z
            · have : os = [] := by
                rw [← e]
                simpa using z
              rw [this] at em
              cases em
            · rw [e] at z
              exact z
        rw [this]
/-- the tokens of all turns, if all are turns by their forms -/
def flatT (ts : List (Option (List (Option Tok)))) : List Tok := (ts.map fun o => (o.getD []).filterMap id).flatten
theorem like_lift : ∀ {ts : List (Option (List (Option Tok)))}, ts.all likeO = true → lift (ts.map fun o => (o.getD []).filterMap id) = ts ∧ ∀ l ∈ ts.map (fun o => (o.getD []).filterMap id), likeT l = true
  | [], _ => ⟨rfl, by simp⟩
  | none :: r, c => by simp [likeO] at c
  | some os :: r, c => by
    have c1 : likeO (some os) = true := by
      simp only [List.all_cons, Bool.and_eq_true] at c
      exact c.1
    have c2 : r.all likeO = true := by
      simp only [List.all_cons, Bool.and_eq_true] at c
      exact c.2
    obtain ⟨h1, h2⟩ := like_lift c2
    have c3 : os.all Option.isSome = true ∧ likeT (os.filterMap id) = true := by
      simpa only [likeO, Bool.and_eq_true] using c1
    refine ⟨?_, fun l hl => ?_⟩
    · have e := all_some c3.1
      simp only [lift, List.map_cons, List.map_map] at h1 ⊢
      rw [h1]
      congr 1
      exact congrArg some e
    · rw [List.map_cons] at hl
      rcases List.mem_cons.mp hl with q | q
      · rw [q]; exact c3.2
      · exact h2 l q
/-- what numbered answers -/
theorem numbered_eq {ts : List (Option (List (Option Tok)))} : pBack ts = if ts.all likeO then (match chk s0 (rAll false r0 (flatT ts)) with | some us => if us.isEmpty then none else some us | none => none) else none := by
  unfold pBack
  cases c : ts.all likeO with
  | false =>
    rw [walk_bad ts _ _ c]
    simp
  | true =>
    obtain ⟨h1, h2⟩ := like_lift c
    simp only [if_true]
    rw [all_false co0]
    have := walk_flat _ s0 [] h2
    rw [h1] at this
    rw [this]
    show _ = match fWalk s0 (flatT ts) with | some us => if us.isEmpty then none else some us | none => none
    have e : (fWalk s0 ((ts.map fun o => (o.getD []).filterMap id).flatten)) = fWalk s0 (flatT ts) := rfl
    rw [e]
    have fl : ∀ {us}, fWalk s0 (flatT ts) = some us → us.length = (flatT ts).length := by
      have key : ∀ (l us : List Tok) (s : S), fWalk s l = some us → us.length = l.length := by
        intro l
        induction l with
        | nil => intro us s e; simp [fWalk] at e; simp [e]
        | cons t l ih =>
          intro us s e
          simp only [fWalk] at e
          split at e
          · cases e
          · split at e
            · obtain ⟨vs, q1, q2⟩ := Option.map_eq_some_iff.mp e
              rw [← q2]
              simp [ih _ _ q1]
            · cases e
      intro us e
      exact key _ _ _ e
    cases ts with
    | nil => rfl
    | cons a r =>
      simp only [List.isEmpty_cons, Bool.false_eq_true, if_false]
      cases w : fWalk s0 (flatT (a :: r)) with
      | none => rfl
      | some us =>
        have l := fl w
        have la : likeT ((a.getD []).filterMap id) = true := h2 _ (by simp)
        have : us.isEmpty = false := by
          cases us with
          | cons _ _ => rfl
          | nil =>
            cases q : (a.getD []).filterMap id with
            | nil => rw [q] at la; cases la
            | cons _ _ => simp [flatT, q] at l
        simp [this]
/-- in each turn at most so many tokens -/
theorem pre_turn : ∀ (q : List Tok) (ts : List Tok) (r : R), (q.all fun u => !u.outer) = true → (∀ r' : R, r'.lost.length ≤ r.lost.length + q.length → rPre false r' ts) → rPre false r (q ++ ts)
  | [], ts, r, _, h => h r (by simp)
  | t :: q, ts, r, o, h => by
    simp only [List.all_cons, Bool.and_eq_true, Bool.not_eq_true'] at o
    refine ⟨fun z => (by rw [o.1] at z; cases z), (fun z => nomatch z), fun r' u e => ?_⟩
    have := lost_few e
    rw [o.1] at this
    simp only [Bool.false_eq_true, if_false] at this
    refine pre_turn q ts r' o.2 fun r2 hr2 => h r2 ?_
    simp only [List.length_cons]
    omega
theorem pre_turns : ∀ (tss : List (List Tok)) (r : R), (∀ ts ∈ tss, likeT ts = true ∧ ts.length ≤ 63) → r.lost.length ≤ 63 → rPre false r tss.flatten
  | [], r, _, _ => trivial
  | [] :: l, r, h, _ => by have := (h [] List.mem_cons_self).1; cases this
  | (t :: q) :: l, r, h, hr => by
    obtain ⟨h1, h2⟩ := h (t :: q) List.mem_cons_self
    simp only [likeT, Bool.and_eq_true] at h1
    simp only [List.length_cons] at h2
    simp only [List.flatten_cons, List.cons_append]
    refine ⟨fun _ => by omega, (fun z => nomatch z), fun r' u e => ?_⟩
    have := lost_few e
    rw [h1.1] at this
    simp only [if_true] at this
    exact pre_turn q _ r' h1.2 fun r2 hr2 => pre_turns l r2 (fun ts hm => h ts (List.mem_cons_of_mem _ hm)) (by omega)
end K13

set_option Elab.async false
set_option maxRecDepth 100000
set_option maxHeartbeats 4000000
set_option linter.all false
namespace K13
open PySem PySem.Spec PyProof.Rows L2
/-- the dict of what is open -/
structure DiAt (H : Hp) (d : Addr) (s : S) : Prop where
  kv : ∃ kvs : List (Key × V), H d = some (.dK kvs) ∧ kvs.length ≤ s.len ∧ (kvs.map (·.1)).Nodup ∧ ∀ n : Int, valV kvs (.inl n) = kindAt s n
  gd : Good s
  few : s.kinds.length ≤ s.len
theorem DiAt.same {H H' : Hp} {d : Addr} {s : S} (e : Same H H') (h : DiAt H d s) : DiAt H' d s := by
  obtain ⟨⟨kvs, h2, h3⟩, h8, h9⟩ := h
  exact ⟨⟨kvs, e _ _ h2, h3⟩, h8, h9⟩
def spGone (K : PySem.W.Frag) : Sp := fun vs H Q _ => ∃ (h : Addr) (xs : List V) (os : List (Option Tok)), vs = [.ref h] ∧ SqL K H h xs ∧ All2 (TV K H) xs os ∧ os.length ≤ 450 ∧
  ∀ (H' : Hp) (p d : Addr), Same H H' → H p = none → H d = none → SqT K H' p [fv (gone s0 0 os), .ref d] → Q (.ref p) H'
theorem go_lf (s : S) (t : Tok) : (go s t).len = s.len + 1 ∧ (go s t).fin = t.last := by
  unfold go
  split
  · exact ⟨rfl, rfl⟩
  · split <;> exact ⟨rfl, rfl⟩
/-- a thing more -/
theorem DiAt.start {H : Hp} {d : Addr} {s : S} {t : Tok} {k : Bool} {kvs : List (Key × V)} (D : DiAt H d s) (h : H d = some (.dK kvs)) (es : t.start? = some k) :
    DiAt (upd H d (.dK (putK kvs (.inl (s.kinds.length : Int)) (V.str (kindS k))))) d (go s t) ∧ (go s t).kinds.length = s.kinds.length + 1 := by
  obtain ⟨⟨kvs', h2, h3, h4, h5⟩, gd, few⟩ := D
  rw [h] at h2
  cases h2
  have hn : valV kvs (.inl (s.kinds.length : Int)) = none := by rw [h5]; exact kind_none gd
  have ego : go s t = ⟨s.run ++ [s.kinds.length], s.kinds ++ [k], ths0 s t ++ [s.kinds.length], s.len + 1, t.last⟩ := by unfold go; rw [es]
  have g := gd.go t
  rw [ego] at g ⊢
  refine ⟨⟨⟨_, upd_same, ?_, nd_putK _ h4 hn, fun j => ?_⟩, g, ?_⟩, by simp⟩
  · rw [putK_new _ hn, List.length_append]
    show kvs.length + 1 ≤ s.len + 1
    omega
  · rw [valV_put, kind_start gd]
    by_cases hj : j = (s.kinds.length : Int)
    · rw [if_pos (by rw [hj]), if_pos hj]
    · rw [if_neg (fun z => hj (Sum.inl.inj z)), if_neg hj]
      exact h5 j
  · simp; omega
/-- a thing less -/
theorem DiAt.drop {H : Hp} {d : Addr} {s : S} {t : Tok} {n : Nat} {kvs : List (Key × V)} (D : DiAt H d s) (h : H d = some (.dK kvs)) (en : t.num? = some n) :
    DiAt (upd H d (.dK (dropK kvs (.inl (n : Int))))) d (go s t) ∧ (go s t).kinds.length = s.kinds.length := by
  obtain ⟨⟨kvs', h2, h3, h4, h5⟩, gd, few⟩ := D
  rw [h] at h2
  cases h2
  have es : t.start? = none := by cases t <;> simp_all [Tok.num?, Tok.start?]
  have ego : go s t = ⟨s.run.erase n, s.kinds, ths0 s t, s.len + 1, t.last⟩ := by unfold go; rw [es, en]
  have g := gd.go t
  rw [ego] at g ⊢
  refine ⟨⟨⟨_, upd_same, ?_, nd_dropK h4, fun j => ?_⟩, g, ?_⟩, rfl⟩
  · have := dropK_le kvs (Sum.inl (n : Int))
    show _ ≤ s.len + 1
    omega
  · rw [valV_dropK, kind_drop gd]
    by_cases hj : j = (n : Int)
    · rw [if_pos (by rw [hj]), if_pos hj]
    · rw [if_neg (fun z => hj (Sum.inl.inj z)), if_neg hj]
      exact h5 j
  · show s.kinds.length ≤ s.len + 1; omega
theorem DiAt.other {H : Hp} {d : Addr} {s : S} {t : Tok} (D : DiAt H d s) (es : t.start? = none) (en : t.num? = none) : DiAt H d (go s t) ∧ (go s t).kinds.length = s.kinds.length := by
  obtain ⟨⟨kvs, h2, h3, h4, h5⟩, gd, few⟩ := D
  have ego : go s t = ⟨s.run, s.kinds, ths0 s t, s.len + 1, t.last⟩ := by unfold go; rw [es, en]
  have g := gd.go t
  rw [ego] at g ⊢
  exact ⟨⟨⟨kvs, h2, by show kvs.length ≤ s.len + 1; omega, h4, h5⟩, g, by show s.kinds.length ≤ s.len + 1; omega⟩, rfl⟩
section
variable {P : Program} {w : World} {K : PySem.W.Frag} {mg : Str → Option Value} {base : Heap}
theorem ok_gone {f : Addr} {fd : FuncData} (F : FnP K "gone_over" "gone_over" s_gone_over f fd) (T : Tx w K mg) (G_has_form : Def P w K mg base CX0 3 "has_form" p_has_form (spHasForm K)) :
    FnOk P w K mg base CX0 4 f fd p_gone_over (spGone K) := by
  refine F.ok sc_gone_over (fun vs H Q E h => ?_) (fun cdv A outer s H vs Q E hr h => ?_)
  · obtain ⟨h, xs, os, rfl, _⟩ := h
    rfl
  · obtain ⟨h, xs, os, rfl, hl, hos, few, k⟩ := h
    have hu := hu_of hr
    have el := hos.len
    refine ⟨_, PSs.nox (pss_cons (ps_set (i := 1) sc_gone_over.nd rfl (.inl rfl) pe_dnewK)
      (pss_cons (ps_set (i := 2) sc_gone_over.nd rfl (.inl rfl) pe_int)
      (pss_cons (ps_set (i := 3) sc_gone_over.nd rfl (.inl rfl) pe_bl)
      (pss_cons (ps_for PassesOwn.never rfl (pi_enum (by rfl) T.b_enumerate (pa_cons (pv 0) pa_nil)) (pg_tup (by rfl) (pgs_cons (pg_name (i := 4) sc_gone_over.nd rfl (.inl rfl)) (pgs_cons (pg_name (i := 5) sc_gone_over.nd rfl (.inl rfl)) pgs_nil))) (pss_cons (ps_if (PW.pt (pw_or (pt_val (pv 3)) (pw_or (pt_not (pt_val (pe_fn G_has_form (hr.mono (by decide)) (by rfl) pass0 (pa_cons (pv 5) pa_nil)))) (pw_or1 (pt_cmpR op_ne (pe_cmpR op_eq (pe_ix ix_tup (pv 5) pe_int (fun _ _ => rfl)) pe_str (nomark _)) (pe_cmpR op_eq (pv 4) pe_int (nomark _)) (nomark _)))))) (pss_one (ps_ret (pe_tup (pa_cons (pv 4) (pa_cons (pv 1) pa_nil))))) pss_nil)
      (C8.pss_cut (ps_if (pt_cmpR (op_in_kd' T.D_STARTED) (pe_ix ix_tup (pv 5) pe_int (fun _ _ => rfl)) (pe_ref (by rfl) T.m_STARTED) (by rfl)) (pss_cons (ps_dput hu (pv 1) (pv 2) (pe_ix ix_kdict (pe_ref (by rfl) T.m_STARTED) (pe_ix ix_tup (pv 5) pe_int (fun _ _ => rfl)) (fun _ _ => rfl)) rfl)
      (pss_one (ps_aug (i := 2) sc_gone_over.nd rfl (.inl rfl) pe_int ip_add))) (pss_one (ps_if (pt_cmpR (op_in_kd' T.D_NAMED) (pe_ix ix_tup (pv 5) pe_int (fun _ _ => rfl)) (pe_ref (by rfl) T.m_NAMED) (by rfl)) (pss_cons (ps_if (pt_cmpR op_notIn_seq (pe_dget1 hu (pv 1) (pe_ix ix_tup (pv 5) pe_int (fun _ _ => rfl)) ⟨rfl, rfl, rfl, rfl⟩) (pe_ix ix_kdict (pe_ref (by rfl) T.m_NAMED) (pe_ix ix_tup (pv 5) pe_int (fun _ _ => rfl)) (fun _ _ => rfl)) (by rfl)) (pss_one (ps_ret (pe_tup (pa_cons (pv 4) (pa_cons (pv 1) pa_nil))))) pss_nil)
      (pss_one (ps_ddel (pv 1) (pe_ix ix_tup (pv 5) pe_int (fun _ _ => rfl))))) pss_nil)))
      (pss_one (ps_set (i := 3) sc_gone_over.nd rfl (.inl rfl) (pe_cmpR op_in_seq (pe_ix ix_tup (pv 5) pe_int (fun _ _ => rfl)) (pe_ref (by rfl) T.m_LAST_WORDS) (by rfl)))))))
      (pss_one (ps_ret (pe_tup (pa_cons pe_non (pa_cons (pv 1) pa_nil))))))))), ?_⟩
    intro d nd
    have Sd : Same H (upd H d (.dK [])) := Same.new nd
    refine ⟨_, rfl, h, xs, rfl, Sd.seq hl, ?_⟩
    refine for_it (walk_enum (K := K) (a := h) (xs := xs)) (fun i σ H2 => ∃ (st : S) (v4 v5 : Option V), σ = [some (.ref h), some (.ref d), some (.int (st.kinds.length : Nat)), some (.bl st.fin), v4, v5] ∧
      Same H H2 ∧ DiAt H2 d st ∧ st.len = i ∧ gone s0 0 os = gone st i (os.drop i))
      ⟨s0, none, none, rfl, Sd, ⟨⟨[], upd_same, by decide, List.nodup_nil, fun n => by simp [kindAt, s0, valV]⟩, good0, by decide⟩, rfl, rfl⟩
      (fun i σ H2 _ q => ?_) (fun i x σ H2 H3 hi q y => ?_) (fun σ H2 q => ?_)
    · obtain ⟨_, _, _, _, S, _⟩ := q
      exact S.seq hl
    · obtain ⟨st, v4, v5, rfl, S, D, hlen, hg⟩ := q
      obtain ⟨T1, xi, v, rfl, nT, rfl, hx, hy⟩ := y
      have hx' : some (V.int (i : Nat)) = some xi := hx
      cases hx'
      have hy' : xs[i]? = some v := hy
      obtain ⟨o, ho, hv⟩ := hos.get hy'
      have hil : i < os.length := by omega
      have S3 : Same H2 (upd H2 T1 (.tup [V.int (i : Nat), v])) := Same.new nT
      have D3 := D.same S3
      have S4 := S.trans S3
      generalize eH3 : upd H2 T1 (.tup [V.int (i : Nat), v]) = H3 at S3 D3 S4
      have hT : SqT K H3 T1 [V.int (i : Nat), v] := SqT.of (by rw [← eH3]; exact upd_same)
      have hdrop : os.drop i = o :: os.drop (i + 1) := by
        rw [List.drop_eq_getElem_cons hil]
        congr 1
        exact (List.getElem?_eq_some_iff.mp ho).2
      rw [hdrop] at hg
      -- the answer at a token that may not stand
      have out : mayO st o = false → ∀ (H5 : Hp), Same H H5 → (2 ≤ sizeLine ∧ ∀ p, H5 p = none → Q (.ref p) (upd H5 p (.tup [V.int (i : Nat), .ref d]))) := by
        intro hm H5 S5
        refine ⟨by decide, fun p np => ?_⟩
        have eg : gone s0 0 os = some i := by
          rw [hg]
          cases o with
          | none => rfl
          | some t =>
            have hm' : may st t = false := hm
            simp [gone, hm']
        refine k _ p d (S5.trans (Same.new np)) (S5.free np) nd ?_
        rw [eg]
        exact SqT.of upd_same
      refine ⟨T1, _, rfl, hT, rfl, _, _, rfl, _, _, rfl, rfl, ?_⟩
      refine ⟨_, rfl, _, rfl, ?_⟩
      refine ite2 (fun c => ?_) fun c => ?_
      · refine iteT ⟨_, rfl, _, rfl, ?_⟩
        refine out ?_ _ S4
        cases o with
        | none => rfl
        | some t => simp [mayO, may, c]
      · have fin0 : st.fin = false := by simpa using c
        refine ⟨_, rfl, v, o, rfl, hv.same S4, fun H4 S34 => ⟨_, rfl, ?_⟩⟩
        have D4 := D3.same S34
        have S5 := S4.trans S34
        cases o with
        | none =>
          refine iteT ?_
          refine iteT ⟨_, rfl, _, rfl, ?_⟩
          exact out rfl _ S5
        | some t =>
          refine iteF ?_
          obtain ⟨⟨a, rfl, ha⟩, _⟩ := hv
          have ha4 := sameT S5 ha
          refine ⟨_, rfl, a, _, _, .str t.head, rfl, rfl, ha4, at0, rfl, _, rfl, rfl, rfl, _, rfl, ?_⟩
          have eb := dec_begin t
          have ei := dec_len i
          have gg : decide (V.bl (decide (V.str t.head = V.str "begin")) = V.bl (decide (V.int (i : Nat) = V.int 0))) = (t.isBegin == (i == 0)) := by
            rw [eb, ei]
            cases t.isBegin <;> cases (i == 0) <;> rfl
          cases g2 : (t.isBegin == (i == 0)) with
          | false =>
            refine iteT' (by rw [gg, g2]; rfl) ⟨_, rfl, _, rfl, ?_⟩
            exact out (by simp [mayO, may, hlen, g2]) _ S5
          | true =>
            refine iteF' (by rw [gg, g2]; rfl) ?_
            have em : may st t = kindOk st t := by simp [may, fin0, hlen, g2]
            obtain ⟨kvs, hd4, hkl, hkn, hkv⟩ := D4.kv
            refine ⟨fun σ' H6 => σ' = [some (.ref h), some (.ref d), some (.int ((go st t).kinds.length : Nat)), some (.bl st.fin), some (.int (i : Nat)), some (.ref a)] ∧ Same H H6 ∧ DiAt H6 d (go st t) ∧ may st t = true, ?_, ?_⟩
            · cases es : t.start? with
              | some kk =>
                obtain ⟨u, e1, e2⟩ := T.hd.sta t kk es
                refine ⟨_, rfl, a, _, _, .str t.head, rfl, rfl, ha4, at0, _, _, rfl, rfl, e1, _, rfl, ?_⟩
                refine iteT ?_
                refine ⟨_, rfl, a, _, _, .str t.head, rfl, rfl, ha4, at0, _, _, _, rfl, rfl, kdct T.D_STARTED e1 e2, ?_⟩
                obtain ⟨D6, ek⟩ := D4.start hd4 es
                refine ⟨_, rfl, _, rfl, d, _, rfl, DPut.k (k := .inl (st.kinds.length : Int)) hd4 (small1000 (by omega)), ?_⟩
                refine ⟨_, rfl, _, _, rfl, rfl, ?_⟩
                refine ⟨?_, fun b o hb => ?_, D6, ?_⟩
                · rw [ek]
                  have : ((st.kinds.length + 1 : Nat) : Int) = (st.kinds.length : Int) + 1 := by omega
                  rw [this]
                  rfl
                · rw [upd_ne (ne_of_none hb nd)]
                  exact S5 b o hb
                · rw [em]
                  cases t <;> simp_all [Tok.start?, kindOk]
              | none =>
                refine ⟨_, rfl, a, _, _, .str t.head, rfl, rfl, ha4, at0, _, _, rfl, rfl, T.hd.noSta t es, _, rfl, ?_⟩
                refine iteF ?_
                cases en : t.num? with
                | none =>
                  refine ⟨_, rfl, a, _, _, .str t.head, rfl, rfl, ha4, at0, _, _, rfl, rfl, T.hd.noNam t en, _, rfl, ?_⟩
                  obtain ⟨D6, ek⟩ := D4.other (t := t) es en
                  refine iteF ⟨by rw [ek]; rfl, S5, D6, ?_⟩
                  rw [em]
                  cases t <;> simp_all [Tok.num?, kindOk]
                | some n =>
                  obtain ⟨p, e1, e2⟩ := T.hd.nam t n en
                  have hv1 : SqT K H4 a (.str t.head :: .int n :: tail2 t) := by rw [← vals_num en]; exact ha4
                  refine ⟨_, rfl, a, _, _, .str t.head, rfl, rfl, ha4, at0, _, _, rfl, rfl, e1, _, rfl, ?_⟩
                  refine iteT ?_
                  refine ⟨_, rfl, d, rfl, .inl ⟨_, .inl hd4⟩, _, rfl, a, _, _, .int n, rfl, rfl, hv1, at1, _, DGet.k (k := .inl (n : Int)) hd4, ?_⟩
                  refine ⟨_, rfl, a, _, _, .str t.head, rfl, rfl, ha4, at0, _, _, .ref p, rfl, rfl, kdct T.D_NAMED e1 rfl, ?_⟩
                  refine ⟨p, nms t, rfl, .inr (e2 _), ?_, ?_, ?_⟩
                  · rw [hkv]
                    unfold kindAt
                    split
                    · cases st.kinds[((n : Nat) : Int).toNat]? <;> rfl
                    · rfl
                  · cases t <;> rfl
                  · refine ⟨_, rfl, ?_⟩
                    have ein : inV ((valV kvs (Sum.inl (n : Int))).getD .non) (nms t) = kindOk st t := by rw [hkv, in_nms en D4.gd]
                    cases kk : kindOk st t with
                    | false =>
                      refine iteT' (by rw [ein, kk]; rfl) ⟨_, rfl, _, rfl, ?_⟩
                      exact out (by rw [← kk, ← em]; rfl) _ S5
                    | true =>
                      refine iteF' (by rw [ein, kk]; rfl) ?_
                      have hm : n ∈ st.run := kind_run en kk
                      have hs : (valV kvs (.inl (n : Int))).isSome = true := by
                        rw [hkv]
                        unfold kindAt
                        rw [if_pos ⟨by omega, by simpa using hm⟩]
                        simp [D4.gd.few' n hm]
                      obtain ⟨D6, ek⟩ := D4.drop hd4 en
                      refine ⟨_, rfl, _, rfl, a, _, _, .int n, rfl, rfl, hv1, at1, d, kvs, .inl (n : Int), rfl, hd4, rfl, hs, ?_⟩
                      refine ⟨by rw [ek]; rfl, fun b o hb => ?_, D6, em.trans kk⟩
                      rw [upd_ne (ne_of_none hb nd)]
                      exact S5 b o hb
            · rintro σ' H6 ⟨rfl, S6, D6, hm⟩
              refine ⟨_, rfl, a, _, _, .str t.head, rfl, rfl, sameT S6 ha, at0, He.ga K "LAST_WORDS", _, rfl, .inr (T.lastT _), rfl, rfl, ?_⟩
              rw [last_in]
              refine ⟨go st t, some (.int (i : Nat)), some (.ref a), ?_, S6, D6, ?_, ?_⟩
              · rw [(go_lf st t).2]
                rfl
              · rw [(go_lf st t).1, hlen]
              · rw [hg]
                simp [gone, hm]
    · obtain ⟨st, v4, v5, rfl, S, D, hlen, hg⟩ := q
      rw [el, List.drop_length] at hg
      refine ⟨_, rfl, by show 2 ≤ sizeLine; decide, fun p np => ?_⟩
      refine k _ p d (S.trans (Same.new np)) (S.free np) nd ?_
      rw [hg]
      exact SqT.of upd_same
end
end K13

set_option Elab.async false
set_option maxRecDepth 100000
set_option maxHeartbeats 4000000
set_option linter.all false
namespace K13
open PySem PySem.Spec PyProof.Rows L2
/-! ### the turns of a flat list, by the places where they begin -/
def outs (i : Nat) : List Tok → List Nat
  | [] => []
  | t :: r => if t.outer then i :: outs (i + 1) r else outs (i + 1) r
def slc {α : Type} (W : List α) (a b : Nat) : List α := (W.drop a).take (b - a)
theorem outs_app : ∀ (a : List Tok) (i : Nat) (t : Tok), outs i (a ++ [t]) = outs i a ++ (if t.outer then [i + a.length] else [])
  | [], i, t => by
    simp only [List.nil_append, outs, List.length_nil, Nat.add_zero]
  | x :: a, i, t => by
    have ih := outs_app a (i + 1) t
    have e : i + 1 + a.length = i + (a.length + 1) := by omega
    simp only [List.cons_append, outs, List.length_cons]
    rw [ih, e]
    split <;> rfl
theorem outs_le : ∀ (a : List Tok) (i : Nat), (outs i a).length ≤ a.length
  | [], i => Nat.le_refl _
  | x :: a, i => by
    have := outs_le a (i + 1)
    simp only [outs, List.length_cons]
    split
    · simp only [List.length_cons]; omega
    · omega
theorem outs_lt : ∀ (a : List Tok) (i : Nat), ∀ n ∈ outs i a, i ≤ n ∧ n < i + a.length
  | [], i, n, h => by cases h
  | x :: a, i, n, h => by
    have ih := outs_lt a (i + 1) n
    simp only [outs] at h
    simp only [List.length_cons]
    split at h
    · rcases List.mem_cons.mp h with q | q
      · omega
      · have := ih q; omega
    · have := ih h; omega
theorem slc_cons {α : Type} {W : List α} {i b : Nat} {x : α} {r : List α} (h : W.drop i = x :: r) (hb : i < b) : slc W i b = x :: slc W (i + 1) b := by
  unfold slc
  have e1 : W.drop (i + 1) = r := by
    rw [← List.drop_drop, h]
    rfl
  rw [h, e1]
  have e2 : b - i = (b - (i + 1)) + 1 := by omega
  rw [e2, List.take_succ_cons]
theorem cutR_slc (W : List Tok) : ∀ (ts : List Tok) (i : Nat), W.drop i = ts → i + ts.length = W.length →
    (cutR ts).1 = slc W i ((outs i ts ++ [W.length]).headD 0) ∧ (cutR ts).2 = List.zipWith (slc W) (outs i ts) ((outs i ts).tail ++ [W.length])
  | [], i, h, hl => by
    refine ⟨?_, rfl⟩
    simp only [cutR, outs, List.nil_append, List.headD_cons]
    unfold slc
    rw [h]
    simp
  | t :: r, i, h, hl => by
    simp only [List.length_cons] at hl
    have h1 : W.drop (i + 1) = r := by
      rw [← List.drop_drop, h]
      rfl
    obtain ⟨q1, q2⟩ := cutR_slc W r (i + 1) h1 (by omega)
    have hb : i < (outs (i + 1) r ++ [W.length]).headD 0 := by
      cases e : outs (i + 1) r with
      | nil => simp; omega
      | cons a l =>
        have := (outs_lt r (i + 1) a (by rw [e]; exact List.mem_cons_self)).1
        simp
        omega
    have es := slc_cons h hb
    cases o : t.outer with
    | true =>
      simp only [cutR, outs, o, if_true, List.cons_append, List.headD_cons, List.tail_cons]
      refine ⟨?_, ?_⟩
      · unfold slc
        simp
      · rw [q1, ← es, q2]
        cases e : outs (i + 1) r with
        | nil => rfl
        | cons a l => simp
    | false =>
      simp only [cutR, outs, o, Bool.false_eq_true, if_false]
      rw [q1, ← es]
      exact ⟨rfl, q2⟩
theorem cut_slc {t : Tok} {r : List Tok} (e : t.outer = true) : cutAll (t :: r) = List.zipWith (slc (t :: r)) (outs 0 (t :: r)) ((outs 0 (t :: r)).tail ++ [(t :: r).length]) := by
  rw [cutAll_R e]
  exact (cutR_slc (t :: r) (t :: r) 0 rfl (by simp)).2
theorem All2.tk {α β : Type} {R : α → β → Prop} {xs : List α} {ys : List β} (h : All2 R xs ys) : ∀ n : Nat, All2 R (xs.take n) (ys.take n) := by
  induction h with
  | nil => intro n; simp; exact .nil
  | cons h _ ih =>
    intro n
    cases n with
    | zero => exact .nil
    | succ n => exact .cons h (ih n)
theorem All2.dp {α β : Type} {R : α → β → Prop} {xs : List α} {ys : List β} (h : All2 R xs ys) : ∀ n : Nat, All2 R (xs.drop n) (ys.drop n) := by
  induction h with
  | nil => intro n; simp; exact .nil
  | cons h t ih =>
    intro n
    cases n with
    | zero => exact .cons h t
    | succ n => exact ih n
theorem cutV_slc {xs : List V} {a b : Nat} (h1 : a ≤ xs.length) (h2 : b ≤ xs.length) : cutV xs (some (a : Int)) (some (b : Int)) = slc xs a b := by
  unfold cutV slc
  rw [HT.sIx_nat, HT.sIx_nat, Nat.min_eq_left h1, Nat.min_eq_left h2]
def spTurnsIn (K : PySem.W.Frag) : Sp := fun vs H Q _ => ∃ (h : Addr) (xs : List V) (t : Tok) (r : List Tok), vs = [.ref h] ∧ SqL K H h xs ∧ All2 (TokAt K H) xs (t :: r) ∧ t.outer = true ∧ (t :: r).length ≤ 450 ∧
  ∀ (H' : Hp) (p : Addr) (rs : List Addr), Same H H' → Fresh H p rs → TurnsAt K H' p rs (cutAll (t :: r)) → Q (.ref p) H'
section
variable {P : Program} {w : World} {K : PySem.W.Frag} {mg : Str → Option Value} {base : Heap}
theorem ok_turnsIn {f : Addr} {fd : FuncData} (F : FnP K "turns_in" "turns_in" s_turns_in f fd) (T : Tx w K mg) (G_is_outer : Def P w K mg base CX0 1 "is_outer" p_is_outer (spIsOuter K)) :
    FnOk P w K mg base CX0 2 f fd p_turns_in (spTurnsIn K) := by
  refine F.ok sc_turns_in (fun vs H Q E h => ?_) (fun cdv A outer s H vs Q E hr h => ?_)
  · obtain ⟨h, xs, t, r, rfl, _⟩ := h
    rfl
  · obtain ⟨h, xs, t, r, rfl, hl, hts, ot, few, k⟩ := h
    rw [cut_slc ot] at k
    generalize t :: r = W at hts few k
    have el := hts.len
    refine ⟨_, PSs.nox (pss_cons (ps_setLc (i := 1) (own := [("at", 3), ("token", 4)]) (g := (gTup K 2 (gCons (gName 3) (gCons (gName 4) gNil)))) (by rfl) sc_turns_in.nd rfl rfl (sw_true rfl rfl rfl (by decide +kernel)) (pi_enum (by rfl) T.b_enumerate (pa_cons (pv 0) pa_nil)) (blkOk_by (N := n_turns_in) (sc := defScope s_turns_in) (by decide +kernel)) (fun _ _ _ _ _ => (pg_tup (by rfl) (pgs_cons (pg_name (i := 3) sc_turns_in.nd rfl (.inl rfl)) (pgs_cons (pg_name (i := 4) sc_turns_in.nd rfl (.inl rfl)) pgs_nil)))) (fun _ _ _ _ _ => (pts_one (pt_val (pe_fn G_is_outer (hr.mono (by decide)) (by rfl) pass0 (pa_cons (pv 4) pa_nil))))) (fun _ _ _ _ _ => (pv 3)))
      (pss_cons (ps_set (i := 2) sc_turns_in.nd rfl (.inl rfl) (pe_op op_cat (pe_slice sl_list (pv 1) (po_some pe_int) po_none) (pe_lst (pa_cons (pe_callB call_len_seq (by rfl) T.b_len PySem.boot_len (pa_cons (pv 0) pa_nil)) pa_nil))))
      (pss_one (ps_ret (pe_lc (own := [("start", 5), ("end", 6)]) (g := (gTup K 2 (gCons (gName 5) (gCons (gName 6) gNil)))) (by rfl) sc_turns_in.nd (RZ.pi_zipA (by rfl) T.b_zip (pa_cons (pv 1) (pa_cons (pv 2) pa_nil))) (blkOk_by (N := n_turns_in) (sc := defScope s_turns_in) (by decide +kernel)) (fun _ _ _ _ _ => (pg_tup (by rfl) (pgs_cons (pg_name (i := 5) sc_turns_in.nd rfl (.inl rfl)) (pgs_cons (pg_name (i := 6) sc_turns_in.nd rfl (.inl rfl)) pgs_nil)))) (fun _ _ _ _ _ => pts_nil) (fun _ _ _ _ _ => (pe_slice (show SlR _ (rSlL K) from sl_list) (pv 0) (po_some (pv 5)) (po_some (pv 6))))))))), ?_⟩
    refine ⟨_, rfl, h, xs, rfl, hl, fun D nD => ?_⟩
    have hD0 : H D = none := nD
    refine lc_it (walk_enum (K := K) (a := h) (xs := xs)) (fun i H' => Same H H' ∧ H' D = some (.lst (nats (outs 0 (W.take i))))) ⟨Same.new nD, upd_same⟩
      (fun i H' _ q => q.1.seq hl) (fun i x H2 H3 hi q y => ?_) (fun H2 q => ?_)
    · obtain ⟨S2, hD⟩ := q
      obtain ⟨T1, xi, v, rfl, nT, rfl, hx, hy⟩ := y
      have hx' : some (V.int (i : Nat)) = some xi := hx
      cases hx'
      have hy' : xs[i]? = some v := hy
      obtain ⟨u, hu, hv⟩ := hts.get hy'
      have S3 : Same H2 (upd H2 T1 (.tup [V.int (i : Nat), v])) := Same.new nT
      have S4 := S2.trans S3
      refine ⟨T1, _, rfl, SqT.of upd_same, rfl, _, _, rfl, _, _, rfl, rfl, rfl, ?_⟩
      refine ⟨_, rfl, v, u, rfl, hv.same S4, _, rfl, ?_⟩
      have hD3 := S3 _ _ hD
      have ex : (W.take i).length = i := by rw [List.length_take]; omega
      have eo := outs_app (W.take i) 0 u
      rw [← take_more hu, ex, Nat.zero_add] at eo
      cases o : u.outer with
      | true =>
        refine iteT ?_
        refine ⟨_, rfl, _, hD3, ?_, fun b ob hb => ?_, ?_⟩
        · have := outs_le (W.take i) 0
          rw [List.length_map]
          exact small1000 (by omega)
        · rw [upd_ne (ne_of_none hb hD0)]
          exact S4 _ _ hb
        · rw [upd_same, eo, o]
          simp [nats]
      | false =>
        refine iteF ⟨S4, ?_⟩
        rw [eo, o, hD3]
        simp
    · obtain ⟨S2, hD⟩ := q
      rw [el, List.take_length] at hD
      generalize ho : outs 0 W = os at hD k
      have ol : os.length ≤ W.length := by rw [← ho]; exact outs_le W 0
      have olt : ∀ n ∈ os, n < W.length := fun n hn => by
        rw [← ho] at hn
        have := (outs_lt W 0 n hn).2
        omega
      refine ⟨_, rfl, 1, rfl, D, _, rfl, SqL.of hD, fun p1 n1 => ?_⟩
      have et : cutV (nats os) (some 1) none = nats os.tail := by
        unfold cutV
        have e1 : HT.sIx (nats os).length 0 (some ((1 : Nat) : Int)) = min 1 (nats os).length := HT.sIx_nat _ _ _
        rw [show (some (1 : Int)) = some ((1 : Nat) : Int) from rfl, e1, HT.sIx_none]
        cases os with
        | nil => rfl
        | cons a l =>
          simp only [nats, List.map_cons, List.length_cons, List.tail_cons]
          rw [Nat.min_eq_left (by omega)]
          simp only [List.drop_succ_cons, List.drop_zero, Nat.add_sub_cancel, List.take_length]
      rw [et]
      generalize eG1 : upd H2 p1 (.lst (nats os.tail)) = G1
      have SG1 : Same H2 G1 := by rw [← eG1]; exact Same.new n1
      have hp1 : G1 p1 = some (.lst (nats os.tail)) := by rw [← eG1]; exact upd_same
      refine ⟨_, rfl, h, xs, rfl, .inl ((S2.trans SG1).seq hl), by show 1 ≤ sizeLine; decide, fun p2 n2 => ?_⟩
      generalize eG2 : upd G1 p2 (.lst [V.int (xs.length : Nat)]) = G2
      have SG2 : Same G1 G2 := by rw [← eG2]; exact Same.new n2
      have hp2 : G2 p2 = some (.lst [V.int (xs.length : Nat)]) := by rw [← eG2]; exact upd_same
      refine ⟨p1, p2, nats os.tail, [V.int (xs.length : Nat)], rfl, rfl, SG2 _ _ hp1, hp2, ?_, fun p3 n3 => ?_⟩
      · rw [sizeLine_eq]
        simp only [nats, List.length_map, List.length_tail, List.length_cons, List.length_nil]
        omega
      have eE : nats os.tail ++ [V.int (xs.length : Nat)] = nats (os.tail ++ [W.length]) := by rw [el]; simp [nats]
      rw [eE]
      generalize eG3 : upd G2 p3 (.lst (nats (os.tail ++ [W.length]))) = G3
      have SG3 : Same G2 G3 := by rw [← eG3]; exact Same.new n3
      have hp3 : G3 p3 = some (.lst (nats (os.tail ++ [W.length]))) := by rw [← eG3]; exact upd_same
      have S3 := ((S2.trans SG1).trans SG2).trans SG3
      have hD3 : G3 D = some (.lst (nats os)) := SG3 _ _ (SG2 _ _ (SG1 _ _ hD))
      refine ⟨_, rfl, _, rfl, D, p3, nats os, nats (os.tail ++ [W.length]), rfl, .inl ⟨SqL.of hD3, SqL.of hp3, fun R nR => ?_⟩⟩
      have hR0 : H R = none := S3.free nR
      generalize ee : os.tail ++ [W.length] = es at hp3
      have esl : es.length = os.length ∨ os = [] := by
        rw [← ee]
        cases os with
        | nil => exact .inr rfl
        | cons a l => exact .inl (by simp)
      have elt : ∀ n ∈ es, n ≤ W.length := fun n hn => by
        rw [← ee] at hn
        rcases List.mem_append.mp hn with q | q
        · exact Nat.le_of_lt (olt n (List.mem_of_mem_tail q))
        · rw [List.mem_singleton.mp q]; exact Nat.le_refl _
      have emin : os.length = min (nats os).length (nats es).length := by
        simp only [nats, List.length_map]
        rcases esl with q | q
        · omega
        · rw [q]; simp
      refine lc_it (walk_zip (K := K) (a := D) (b := p3) (xs := nats os) (ys := nats es) (n := os.length) emin) (fun i H' => Same G3 H' ∧ ∃ rs : List Addr, H' R = some (.lst (rs.map V.ref)) ∧ All2 (LT K H') rs ((List.zipWith (slc W) os es).take i) ∧ (∀ r ∈ rs, H r = none ∧ r ≠ R) ∧ rs.Nodup)
        ⟨Same.new nR, [], upd_same, .nil, by simp, List.nodup_nil⟩ (fun i H' _ q => ⟨SqL.of (q.1 _ _ hD3), SqL.of (q.1 _ _ hp3)⟩) (fun i x H4 H5 hi q y => ?_) (fun H4 q => ?_)
      · obtain ⟨S4, rs, hR, hrs, hf, hnd⟩ := q
        obtain ⟨T1, xa, xb, rfl, nT, rfl, hx, hy⟩ := y
        obtain ⟨na, ha, rfl⟩ := nats_get (show (nats os)[i]? = some xa from hx)
        obtain ⟨nb, hb, rfl⟩ := nats_get (show (nats es)[i]? = some xb from hy)
        refine ⟨T1, _, rfl, SqT.of upd_same, rfl, _, _, rfl, _, _, rfl, rfl, rfl, ?_⟩
        refine tYes_ ?_
        refine iteT ?_
        have ia : na < W.length := olt na (List.mem_of_getElem? ha)
        have ib : nb ≤ W.length := elt nb (List.mem_of_getElem? hb)
        have S5 : Same G3 (upd H4 T1 (.tup [V.int (na : Nat), V.int (nb : Nat)])) := S4.trans (Same.new nT)
        have hR5 : upd H4 T1 (.tup [V.int (na : Nat), V.int (nb : Nat)]) R = some (.lst (rs.map V.ref)) := by rw [upd_ne (ne_of_none hR nT)]; exact hR
        have hrs5 : All2 (LT K (upd H4 T1 (.tup [V.int (na : Nat), V.int (nb : Nat)]))) rs ((List.zipWith (slc W) os es).take i) := hrs.imp fun x y _ q => q.same (Same.new nT)
        generalize upd H4 T1 (.tup [V.int (na : Nat), V.int (nb : Nat)]) = H5 at S5 hR5 hrs5
        refine ⟨_, rfl, _, rfl, (na : Int), rfl, _, rfl, (nb : Int), rfl, h, xs, rfl, (S3.trans S5).seq hl, fun q nq => ?_⟩
        rw [cutV_slc (by omega) (by omega)]
        have S6 : Same H5 (upd H5 q (.lst (slc xs na nb))) := Same.new nq
        have hq0 : H q = none := (S3.trans S5).free nq
        have qR : q ≠ R := (ne_of_none hR5 nq).symm
        have hR6 := S6 _ _ hR5
        have hi' : (List.zipWith (slc W) os es)[i]? = some (slc W na nb) := by
          rw [List.getElem?_zipWith, ha, hb]
        have lrs := hrs5.len
        rw [List.length_take] at lrs
        refine ⟨_, hR6, ?_, (fun b ob hb0 => ?_), rs ++ [q], ?_, ?_, ?_, ?_⟩
        · rw [List.length_map]
          exact small1000 (by omega)
        · rw [upd_ne (ne_of_none hb0 nR)]
          exact (S5.trans S6) b ob hb0
        · rw [upd_same, List.map_append]
          rfl
        · rw [take_more hi']
          refine All2.app (hrs5.imp fun x y hx z => LT.beside (z.same S6) hR6 (hf x hx).2) (All2.one ?_)
          refine LT.beside ⟨slc xs na nb, upd_same, ?_⟩ hR6 qR
          exact ((hts.dp na).tk (nb - na)).imp fun x y _ z => (z.same (S3.trans S5)).same S6
        · intro r hr
          rcases List.mem_append.mp hr with z | z
          · exact hf r z
          · rw [List.mem_singleton.mp z]
            exact ⟨hq0, qR⟩
        · refine List.nodup_append.mpr ⟨hnd, by simp, fun x hx y hy z => ?_⟩
          rw [List.mem_singleton.mp hy] at z
          subst z
          obtain ⟨zs, q1⟩ := hrs5.tracked hx
          rw [q1] at nq
          cases nq
      · obtain ⟨S4, rs, hR, hrs, hf, hnd⟩ := q
        refine k H4 R rs (S3.trans S4) ⟨hR0, fun r hr => (hf r hr).1, fun z => (hf _ z).2 rfl, hnd⟩ ⟨hR, ?_⟩
        have : (List.zipWith (slc W) os es).length ≤ os.length := by rw [List.length_zipWith]; omega
        rw [List.take_of_length_le this] at hrs
        rw [ee]
        exact hrs
end
end K13

set_option Elab.async false
set_option maxRecDepth 100000
set_option maxHeartbeats 4000000
set_option linter.all false
namespace K13
open PySem PySem.Spec PyProof.Rows L2
def lkey (n : Nat) : Key := .inl (n : Int)
theorem putK_keys {kvs : List (Key × V)} {l : List Nat} (n : Nat) (v : V) (h : kvs.map (·.1) = l.map lkey) : (putK kvs (lkey n) v).map (·.1) = (putL l n).map lkey := by
  have inj : ∀ m, lkey m = lkey n ↔ m = n := fun m => ⟨fun z => by have := Sum.inl.inj z; omega, fun z => by rw [z]⟩
  have ea : (kvs.any fun kv => decide (kv.1 = lkey n)) = l.contains n := by
    have e1 : (kvs.any fun kv => decide (kv.1 = lkey n)) = ((kvs.map (·.1)).any fun k => decide (k = lkey n)) := by rw [List.any_map]; rfl
    rw [e1, h, List.any_map]
    rw [Bool.eq_iff_iff]
    simp only [List.any_eq_true, Function.comp, decide_eq_true_eq, List.contains_iff_mem, inj]
    exact ⟨fun ⟨x, h1, h2⟩ => h2 ▸ h1, fun q => ⟨n, q, rfl⟩⟩
  unfold putK putL
  rw [ea]
  split
  · rw [List.map_map, ← h]
    refine List.map_congr_left fun kv _ => ?_
    show (if kv.1 = lkey n then (kv.1, v) else kv).1 = kv.1
    split <;> rfl
  · rw [List.map_append, List.map_append, h]
    rfl
/-- what renumbered keeps -/
structure RnAt (K : PySem.W.Frag) (H0 H : Hp) (p q l : Addr) (r : R) (us : List Tok) : Prop where
  sm : Same H0 H
  nw : H0 p = none ∧ H0 q = none ∧ H0 l = none
  ne : p ≠ q
  tl : ∃ ys, H p = some (.lst ys) ∧ All2 (TokAt K H) ys us
  th : H q = some (.lst (nats r.ths))
  lo : ∃ kvs : List (Key × V), H l = some (.dK kvs) ∧ kvs.map (·.1) = r.lost.map lkey
  ri : RI r
section
variable {K : PySem.W.Frag} {H0 H : Hp} {p q l : Addr} {r : R} {us : List Tok}
theorem RnAt.same {H' : Hp} (h : RnAt K H0 H p q l r us) (e : Same H H') : RnAt K H0 H' p q l r us := by
  obtain ⟨ys, h1, h2⟩ := h.tl
  obtain ⟨kvs, h3, h4⟩ := h.lo
  exact ⟨h.sm.trans e, h.nw, h.ne, ⟨ys, e _ _ h1, h2.imp fun x y _ => TokAt.same e⟩, e _ _ h.th, ⟨kvs, e _ _ h3, h4⟩, h.ri⟩
theorem RnAt.neq (h : RnAt K H0 H p q l r us) : l ≠ p ∧ l ≠ q := by
  obtain ⟨ys, h1, h2⟩ := h.tl
  obtain ⟨kvs, h3, h4⟩ := h.lo
  exact ⟨ne_of h3 h1 (by intro z; cases z), ne_of h3 h.th (by intro z; cases z)⟩
theorem same_own {o : HO} {b : Addr} (s : Same H0 H) (n : H0 b = none) : Same H0 (upd H b o) := fun a u ha => by
  rw [upd_ne (ne_of_none ha n)]
  exact s a u ha
/-- other things -/
theorem RnAt.ths (h : RnAt K H0 H p q l r us) {ths : List Nat} {st : Nat} (ri : RI ⟨ths, r.lost, st⟩) : RnAt K H0 (upd H q (.lst (nats ths))) p q l ⟨ths, r.lost, st⟩ us := by
  obtain ⟨ys, h1, h2⟩ := h.tl
  obtain ⟨kvs, h3, h4⟩ := h.lo
  exact ⟨same_own h.sm h.nw.2.1, h.nw, h.ne, ⟨ys, by rw [upd_ne h.ne]; exact h1, h2.imp fun x y _ z => z.stay fun c zs hz => updT h.th hz⟩, upd_same, ⟨kvs, by rw [upd_ne h.neq.2]; exact h3, h4⟩, ri⟩
/-- the dict of a new turn -/
theorem RnAt.fresh (h : RnAt K H0 H p q l r us) {d : Addr} (nd : H d = none) : RnAt K H0 (upd H d (.dK [])) p q d ⟨r.ths, [], r.st⟩ us := by
  have e : Same H (upd H d (.dK [])) := Same.new nd
  obtain ⟨ys, h1, h2⟩ := h.tl
  exact ⟨h.sm.trans e, ⟨h.nw.1, h.nw.2.1, h.sm.free nd⟩, h.ne, ⟨ys, e _ _ h1, h2.imp fun x y _ => TokAt.same e⟩, e _ _ h.th, ⟨[], upd_same, rfl⟩, ⟨h.ri.srt, h.ri.few, List.nodup_nil, by simp⟩⟩
theorem RnAt.turn (h : RnAt K H0 H p q l r us) {ths : List Nat} (h1 : ths.Pairwise (· < ·)) (h2 : ∀ n ∈ ths, n < r.st) {d : Addr} (nd : upd H q (.lst (nats ths)) d = none) : RnAt K H0 (upd (upd H q (.lst (nats ths))) d (.dK [])) p q d ⟨ths, [], r.st⟩ us := by
  obtain ⟨ys, h3, h4⟩ := h.tl
  have s1 : Same H0 (upd H q (.lst (nats ths))) := same_own h.sm h.nw.2.1
  have e : Same (upd H q (.lst (nats ths))) (upd (upd H q (.lst (nats ths))) d (.dK [])) := Same.new nd
  refine ⟨s1.trans e, ⟨h.nw.1, h.nw.2.1, s1.free nd⟩, h.ne, ⟨ys, e _ _ (by rw [upd_ne h.ne]; exact h3), h4.imp fun x y _ z => TokAt.same e (z.stay fun c zs hz => updT h.th hz)⟩, e _ _ upd_same, ⟨[], upd_same, rfl⟩, ⟨h1, h2, List.nodup_nil, by simp⟩⟩
/-- one that is lost -/
theorem RnAt.lose (h : RnAt K H0 H p q l r us) {kvs : List (Key × V)} (hl : H l = some (.dK kvs)) (n : Nat) (v : V) (hn : n ∈ r.ths) : RnAt K H0 (upd H l (.dK (putK kvs (lkey n) v))) p q l (rEnd r n) us := by
  obtain ⟨ys, h1, h2⟩ := h.tl
  obtain ⟨kvs', h3, h4⟩ := h.lo
  rw [hl] at h3
  cases h3
  obtain ⟨n1, n2⟩ := h.neq
  refine ⟨same_own h.sm h.nw.2.2, h.nw, h.ne, ⟨ys, by rw [upd_ne n1.symm]; exact h1, h2.imp fun x y _ z => z.stay fun c zs hz => ?_⟩, by rw [upd_ne n2.symm]; exact h.th, ⟨_, upd_same, putK_keys n v h4⟩, h.ri.end' hn⟩
  rcases hz with (ht | ⟨o, ht⟩) | ht
  · exact .inl (.inl (by rw [upd_ne (ne_of ht hl (by intro z; cases z))]; exact ht))
  · exact .inl (.inr ⟨o, by rw [upd_ne (ne_of ht hl (by intro z; cases z))]; exact ht⟩)
  · exact .inr ht
/-- a token is told -/
theorem RnAt.tok (h : RnAt K H0 H p q l r us) {ys : List V} (hp : H p = some (.lst ys)) {v : V} {t : Tok} (hv : TokAt K H v t) : RnAt K H0 (upd H p (.lst (ys ++ [v]))) p q l r (us ++ [t]) := by
  obtain ⟨ys', h1, h2⟩ := h.tl
  rw [hp] at h1
  cases h1
  obtain ⟨kvs, h3, h4⟩ := h.lo
  exact ⟨same_own h.sm h.nw.1, h.nw, h.ne, ⟨_, upd_same, All2.app (h2.imp fun x y _ z => z.stay fun c zs hz => updT hp hz) (All2.one (hv.stay fun c zs hz => updT hp hz))⟩, by rw [upd_ne h.ne.symm]; exact h.th, ⟨kvs, by rw [upd_ne h.neq.1]; exact h3, h4⟩, h.ri⟩
end
def spRenum (K : PySem.W.Frag) : Sp := fun vs H Q _ => ∃ (h : Addr) (xs : List V) (b : Bool) (ts : List Tok), vs = [.ref h, .bl b] ∧ SqL K H h xs ∧ All2 (TokAt K H) xs ts ∧ rPre b r0 ts ∧ ts.length ≤ 450 ∧
  ∀ (H' : Hp) (v : V), Same H H' → (match rAll b r0 ts with
    | some us => ∃ p ys, v = .ref p ∧ H p = none ∧ H' p = some (.lst ys) ∧ All2 (TokAt K H') ys us
    | none => v = .non) → Q v H'
theorem new_st (r : R) (t : Tok) : (rNew r t).st = r.st := by
  unfold rNew
  split <;> rfl
section
variable {P : Program} {w : World} {K : PySem.W.Frag} {mg : Str → Option Value} {base : Heap}
theorem ok_renum {f : Addr} {fd : FuncData} (F : FnP K "renumbered" "renumbered" s_renumbered f fd) (T : Tx w K mg) (G_is_outer : Def P w K mg base CX0 1 "is_outer" p_is_outer (spIsOuter K))
    (G_place_in : Def P w K mg base CX0 1 "place_in" p_place_in (spPlace K)) : FnOk P w K mg base CX0 2 f fd p_renumbered (spRenum K) := by
  refine F.ok sc_renumbered (fun vs H Q E h => ?_) (fun cdv A outer s H vs Q E hr h => ?_)
  · obtain ⟨h, xs, b, ts, rfl, _⟩ := h
    rfl
  · obtain ⟨h, xs, b, ts, rfl, hl, hts, pre, few, k⟩ := h
    have hu := hu_of hr
    have el := hts.len
    refine ⟨_, PSs.nox (pss_cons (ps_set (i := 2) sc_renumbered.nd rfl (.inl rfl) (pe_lst pa_nil))
      (pss_cons (ps_set (i := 3) sc_renumbered.nd rfl (.inl rfl) (pe_lst pa_nil))
      (pss_cons (ps_set (i := 4) sc_renumbered.nd rfl (.inl rfl) pe_dnewK)
      (pss_cons (ps_set (i := 5) sc_renumbered.nd rfl (.inl rfl) pe_int)
      (pss_cons (ps_for PassesOwn.never rfl (pi_list (pv 0)) (pg_name (i := 6) sc_renumbered.nd rfl (.inl rfl)) (C8.pss_cut (ps_if (pt_val (pe_fn G_is_outer (hr.mono (by decide)) (by rfl) pass0 (pa_cons (pv 6) pa_nil))) (pss_cons (ps_for PassesOwn.never rfl (pi_list (pe_callB (call_sortedDI rfl) (by rfl) T.b_sorted (by decide +kernel) (pa_cons (pv 4) pa_nil))) (pg_name (i := 7) sc_renumbered.nd rfl (.inl rfl)) (pss_one (ps_delL (pv 3) (pe_fn G_place_in (hr.mono (by decide)) (by rfl) pass0 (pa_cons (pv 3) (pa_cons (pv 7) pa_nil))))))
      (pss_one (ps_set (i := 4) sc_renumbered.nd rfl (.inl rfl) pe_dnewK))) pss_nil)
      (C8.pss_cut (ps_if (pt_cmpR (op_in_kd' T.D_STARTED) (pe_ix ix_tup (pv 6) pe_int (fun _ _ => rfl)) (pe_ref (by rfl) T.m_STARTED) (by rfl)) (pss_cons (ps_expr (pe_bm PySem.F.plainAttrs_list PySem.F.slot_list_append PySem.F.type_list_append mt_append (pv 3) (pa_cons (pv 5) pa_nil)))
      (pss_one (ps_aug (i := 5) sc_renumbered.nd rfl (.inl rfl) pe_int ip_add))) pss_nil)
      (pss_cons (ps_if (pt_cmpR (op_notIn_kd' T.D_NAMED) (pe_ix ix_tup (pv 6) pe_int (fun _ _ => rfl)) (pe_ref (by rfl) T.m_NAMED) (by rfl)) (pss_cons (ps_expr (pe_bm PySem.F.plainAttrs_list PySem.F.slot_list_append PySem.F.type_list_append mt_append (pv 2) (pa_cons (pv 6) pa_nil)))
      (pss_one ps_continue)) pss_nil)
      (pss_cons (ps_if (PW.pt (pw_and (pt_not (pt_val (pv 1))) (pw_and1 (pt_cmpR op_ge (pe_ix ix_tup (pv 6) pe_int (fun _ _ => rfl)) (pe_callB call_len_seq (by rfl) T.b_len PySem.boot_len (pa_cons (pv 3) pa_nil)) (nomark _))))) (pss_one (ps_ret pe_non)) pss_nil)
      (pss_cons (ps_set (i := 7) sc_renumbered.nd rfl (.inl rfl) (pe_ifExp (pt_val (pv 1)) (pe_ix ix_tup (pv 6) pe_int (fun _ _ => rfl)) (pe_ix ix_list (pv 3) (pe_ix ix_tup (pv 6) pe_int (fun _ _ => rfl)) (fun _ _ => rfl))))
      (pss_cons (ps_dput hu (pv 4) (pv 7) pe_bl rfl)
      (pss_one (ps_expr (pe_bm PySem.F.plainAttrs_list PySem.F.slot_list_append PySem.F.type_list_append mt_append (pv 2) (pa_cons (pe_op op_catT (pe_tup (pa_cons (pe_ix ix_tup (pv 6) pe_int (fun _ _ => rfl)) (pa_cons (pe_ifExp (pt_val (pv 1)) (pe_fn G_place_in (hr.mono (by decide)) (by rfl) pass0 (pa_cons (pv 3) (pa_cons (pv 7) pa_nil))) (pv 7)) pa_nil))) (pe_slice sl_tup (pv 6) (po_some pe_int) po_none)) pa_nil)))))))))))
      (pss_one (ps_ret (pv 2)))))))), ?_⟩
    refine ⟨by show 0 ≤ sizeLine; decide, fun p np => ?_⟩
    refine ⟨by show 0 ≤ sizeLine; decide, fun q nq => ?_⟩
    intro l nl
    have S1 : Same H (upd H p (.lst [])) := Same.new np
    have S2 : Same (upd H p (.lst [])) (upd (upd H p (.lst [])) q (.lst [])) := Same.new nq
    have hp1 : upd H p (.lst []) p = some (.lst []) := upd_same
    have R0 : RnAt K H (upd (upd (upd H p (.lst [])) q (.lst [])) l (.dK [])) p q l r0 [] := by
      have hq2 : upd (upd H p (.lst [])) q (.lst []) q = some (.lst []) := upd_same
      have S3 : Same (upd (upd H p (.lst [])) q (.lst [])) (upd (upd (upd H p (.lst [])) q (.lst [])) l (.dK [])) := Same.new nl
      exact ⟨(S1.trans S2).trans S3, ⟨np, S1.free nq, (S1.trans S2).free nl⟩, ne_of_none hp1 nq, ⟨[], S3 _ _ (S2 _ _ hp1), .nil⟩, S3 _ _ hq2, ⟨[], upd_same, rfl⟩, ri0⟩
    generalize upd (upd (upd H p (.lst [])) q (.lst [])) l (.dK []) = H1 at R0
    refine ⟨_, rfl, h, rfl, ⟨xs, R0.sm.seq hl⟩, ?_⟩
    refine for_list (K := K) (a := h) (xs := xs) (fun i σ H2 => ∃ (l' : Addr) (r : R) (us : List Tok) (v6 v7 : Option V), σ = [some (.ref h), some (.bl b), some (.ref p), some (.ref q), some (.ref l'), some (.int (r.st : Nat)), v6, v7] ∧
      RnAt K H H2 p q l' r us ∧ rPre b r (ts.drop i) ∧ us.length = i ∧ r.st ≤ i ∧ rAll b r0 ts = (rAll b r (ts.drop i)).map (us ++ ·))
      ⟨l, r0, [], none, none, rfl, R0, pre, rfl, Nat.le_refl _, ?_⟩ (fun i σ H2 _ z => ?_) (fun i x σ H2 hi z => ?_) (fun σ H2 z => ?_)
    · rw [List.drop_zero]
      cases rAll b r0 ts <;> rfl
    · obtain ⟨_, _, _, _, _, _, R, _⟩ := z
      exact R.sm.seq hl
    · obtain ⟨l', r, us, v6, v7, rfl, R, pr, ul, st, ea⟩ := z
      obtain ⟨t, ht, ⟨a, rfl, ha⟩⟩ := hts.get hi
      have hil : i < ts.length := (List.getElem?_eq_some_iff.mp ht).1
      have hdrop : ts.drop i = t :: ts.drop (i + 1) := by
        rw [List.drop_eq_getElem_cons hil]
        congr 1
        exact (List.getElem?_eq_some_iff.mp ht).2
      rw [hdrop] at pr ea
      obtain ⟨pr1, pr2, pr3⟩ := pr
      have ha0 : ∀ {H' : Hp}, Same H H' → SqT K H' a t.vals := fun s => sameT s ha
      refine ⟨fun σ' H3 => ∃ (l2 : Addr) (v7' : Option V), σ' = [some (.ref h), some (.bl b), some (.ref p), some (.ref q), some (.ref l2), some (.int ((rNew r t).st : Nat)), some (.ref a), v7'] ∧ RnAt K H H3 p q l2 (rNew r t) us, ?_, ?_⟩
      · refine ⟨_, rfl, .ref a, t, rfl, ⟨a, rfl, ha0 R.sm⟩, _, rfl, ?_⟩
        cases o : t.outer with
        | false =>
          refine iteF ⟨l', v7, ?_, ?_⟩
          · rw [new_st]; rfl
          · have : rNew r t = r := by unfold rNew; rw [o]; rfl
            rw [this]
            exact R
        | true =>
          refine iteT ?_
          have lost64 := pr1 o
          obtain ⟨kvs, hkv, hkk⟩ := R.lo
          have hks : kvs.map (·.1) = (r.lost.map fun n : Nat => (n : Int)).map Sum.inl := by
            rw [hkk, List.map_map]
            rfl
          refine ⟨_, rfl, l', kvs, r.lost.map fun n : Nat => (n : Int), rfl, Rd.of hkv, hks, by rw [List.length_map]; exact lost64, fun ys w pm srt nw => ?_⟩
          obtain ⟨ns, en, pn⟩ : ∃ ns : List Nat, ys = ns.map (fun n : Nat => (n : Int)) ∧ ns.Perm r.lost := by
            refine ⟨ys.map Int.toNat, ?_, ?_⟩
            · rw [List.map_map]
              refine (List.map_id ys).symm.trans (List.map_congr_left fun y hy => ?_)
              obtain ⟨n, _, e⟩ := List.mem_map.mp (pm.mem_iff.mp hy)
              show y = ((y.toNat : Nat) : Int)
              omega
            · have := pm.map Int.toNat
              rw [List.map_map] at this
              have e : r.lost.map (Int.toNat ∘ fun n : Nat => (n : Int)) = r.lost := by
                refine (List.map_congr_left fun n _ => ?_).trans (List.map_id _)
                show (n : Int).toNat = n
                omega
              rw [e] at this
              exact this
          have env : ys.map V.int = nats ns := by rw [en, List.map_map]; rfl
          rw [env]
          have Sw : Same H2 (upd H2 w (.lst (nats ns))) := Same.new nw
          have Rw := R.same Sw
          have hw : upd H2 w (.lst (nats ns)) w = some (.lst (nats ns)) := upd_same
          have wq : w ≠ q := (ne_of_none R.th nw).symm
          generalize upd H2 w (.lst (nats ns)) = H3 at Rw hw
          refine ⟨w, rfl, ⟨_, SqL.of hw⟩, ?_⟩
          have nns : ns.Nodup := pn.nodup_iff.mpr R.ri.nd
          have few2 : r.ths.length ≤ 450 := by
            have := srt_few R.ri.srt R.ri.few
            omega
          refine for_list (K := K) (a := w) (xs := nats ns) (fun j σ' H' => H' = upd H3 q (.lst (nats (r.ths.filter fun n => !(ns.take j).contains n))) ∧ ∃ v7', σ' = [some (.ref h), some (.bl b), some (.ref p), some (.ref q), some (.ref l'), some (.int (r.st : Nat)), some (.ref a), v7'])
            ⟨?_, v7, rfl⟩ (fun j σ' H' _ z => ?_) (fun j x σ' H' hj z => ?_) fun σ' H' z => ?_
          · rw [upd_self]
            have : r.ths.filter (fun n => !(ns.take 0).contains n) = r.ths := by simp
            rw [this]
            exact Rw.th
          · obtain ⟨rfl, v7', rfl⟩ := z
            exact SqL.of (by rw [upd_ne wq]; exact hw)
          · obtain ⟨rfl, v7', rfl⟩ := z
            obtain ⟨n, hn, rfl⟩ := nats_get hj
            have hjl : j < ns.length := (List.getElem?_eq_some_iff.mp hn).1
            generalize ec : (r.ths.filter fun n => !(ns.take j).contains n) = cur
            have srt : cur.Pairwise (· < ·) := by rw [← ec]; exact R.ri.srt.sublist List.filter_sublist
            have lc : cur.length ≤ 450 := by
              rw [← ec]
              exact Nat.le_trans (List.length_filter_le _ _) few2
            have mem : n ∈ cur := by
              rw [← ec, List.mem_filter]
              refine ⟨R.ri.sub n (pn.mem_iff.mp (List.mem_of_getElem? hn)), ?_⟩
              have : n ∉ ns.take j := fun z => by
                obtain ⟨m, hm, e⟩ := List.mem_iff_getElem.mp z
                rw [List.length_take] at hm
                rw [List.getElem_take] at e
                have e2 := (List.getElem?_eq_some_iff.mp hn).2
                exact List.pairwise_iff_getElem.mp nns m j (by omega) hjl (by omega) (e.trans e2.symm)
              simp [this]
            have hx := List.idxOf_lt_length_of_mem mem
            refine ⟨_, rfl, _, rfl, _, rfl, q, cur, n, rfl, SqL.of upd_same, srt, mem, by omega, ?_⟩
            refine ⟨q, nats cur, _, cur.idxOf n, rfl, rfl, upd_same, by omega, by omega, seqIx (by rw [List.length_map]; exact hx), ?_, some (.int n), rfl⟩
            rw [upd_upd, nats_erase (srt_nodup srt), ← ec, List.filter_filter, take_more hn]
            refine congrArg (fun l => upd H3 q (HO.lst (nats l))) (List.filter_congr fun m _ => ?_)
            cases h : m == n <;> simp_all [bne, List.contains_append] <;> simp [*]
          · obtain ⟨rfl, v7', rfl⟩ := z
            have ef : (r.ths.filter fun n => !(ns.take (nats ns).length).contains n) = r.ths.filter fun n => !r.lost.contains n := by
              rw [List.length_map, List.take_length]
              refine List.filter_congr fun m _ => ?_
              congr 1
              rw [Bool.eq_iff_iff, List.contains_iff_mem, List.contains_iff_mem]
              exact pn.mem_iff
            rw [ef]
            intro d nd
            refine ⟨d, v7', ?_, ?_⟩
            · rw [new_st]; rfl
            · have : rNew r t = ⟨r.ths.filter fun n => !r.lost.contains n, [], r.st⟩ := by unfold rNew; rw [o]; rfl
              rw [this]
              exact Rw.turn (R.ri.srt.sublist List.filter_sublist) (fun n hn => R.ri.few n (List.mem_filter.mp hn).1) nd
      · rintro σ' H3 ⟨l2, v7', rfl, R3⟩
        clear R
        refine ⟨fun σ'' H4 => σ'' = [some (.ref h), some (.bl b), some (.ref p), some (.ref q), some (.ref l2), some (.int ((rAdd (rNew r t) t).st : Nat)), some (.ref a), v7'] ∧ RnAt K H H4 p q l2 (rAdd (rNew r t) t) us, ?_, ?_⟩
        · have ha3 := ha0 R3.sm
          have few3 : (rNew r t).ths.length ≤ 450 := by
            have := srt_few R3.ri.srt R3.ri.few
            rw [new_st] at this
            omega
          cases es : t.start? with
          | some kk =>
            obtain ⟨u, e1, e2⟩ := T.hd.sta t kk es
            refine ⟨_, rfl, a, _, _, .str t.head, rfl, rfl, ha3, at0, _, _, rfl, rfl, e1, _, rfl, ?_⟩
            refine iteT ?_
            have e2 : rAdd (rNew r t) t = ⟨(rNew r t).ths ++ [(rNew r t).st], (rNew r t).lost, (rNew r t).st + 1⟩ := by unfold rAdd; rw [es]
            have ri2 := R3.ri.add t
            rw [e2] at ri2 ⊢
            refine ⟨_, rfl, Or.inl ⟨rfl, _, SqL.of R3.th⟩, _, rfl, q, _, _, rfl, rfl, R3.th, small1000 (by rw [List.length_map]; omega), ?_⟩
            refine ⟨_, rfl, _, _, rfl, rfl, ?_⟩
            refine ⟨?_, ?_⟩
            · have : (((rNew r t).st + 1 : Nat) : Int) = ((rNew r t).st : Int) + 1 := by omega
              show _ = [_, _, _, _, _, some (V.int (((rNew r t).st + 1 : Nat) : Int)), _, _]
              rw [this]
              rfl
            · have := R3.ths ri2
              simpa [nats] using this
          | none =>
            refine ⟨_, rfl, a, _, _, .str t.head, rfl, rfl, ha3, at0, _, _, rfl, rfl, T.hd.noSta t es, _, rfl, ?_⟩
            have e2 : rAdd (rNew r t) t = rNew r t := by unfold rAdd; rw [es]
            rw [e2]
            exact iteF ⟨rfl, R3⟩
        · rintro σ'' H4 ⟨rfl, R4⟩
          clear R3
          have ha4 := ha0 R4.sm
          obtain ⟨ys, hp4, hys⟩ := R4.tl
          have ysl := hys.len
          cases en : t.num? with
          | none =>
            have e1 : rOne b r t = some (rAdd (rNew r t) t, t) := by unfold rOne; rw [en]
            have est := rOne_st e1
            refine ⟨_, rfl, a, _, _, .str t.head, rfl, rfl, ha4, at0, _, _, rfl, rfl, T.hd.noNam t en, _, rfl, ?_⟩
            refine iteT ?_
            refine ⟨_, rfl, Or.inl ⟨rfl, _, SqL.of hp4⟩, _, rfl, p, ys, .ref a, rfl, rfl, hp4, small1000 (by omega), ?_⟩
            refine ⟨l2, _, us ++ [t], some (.ref a), v7', rfl, R4.tok hp4 ⟨a, rfl, ha4⟩, pr3 _ _ e1, by simp [ul], by omega, ?_⟩
            rw [ea]
            simp only [rAll, e1]
            rw [Option.map_map]
            congr 1
            funext z
            simp
          | some n =>
            obtain ⟨pN, e1, e2⟩ := T.hd.nam t n en
            have hv4 : SqT K H4 a (.str t.head :: .int n :: tail2 t) := by rw [← vals_num en]; exact ha4
            refine ⟨_, rfl, a, _, _, .str t.head, rfl, rfl, ha4, at0, _, _, rfl, rfl, e1, _, rfl, ?_⟩
            refine iteF ?_
            have few4 : (rAdd (rNew r t) t).ths.length ≤ 451 := by
              have h1 := srt_few R4.ri.srt R4.ri.few
              have h2 : (rAdd (rNew r t) t).st ≤ r.st + 1 := by
                have := new_st r t
                unfold rAdd
                split
                · show (rNew r t).st + 1 ≤ _; omega
                · omega
              omega
            obtain ⟨kvs, hkv, hkk⟩ := R4.lo
            have kvl : kvs.length < sizeLine := by
              have h1 := congrArg List.length hkk
              rw [List.length_map, List.length_map] at h1
              have h2 := nodup_le R4.ri.nd R4.ri.sub
              exact small1000 (by omega)
            -- the rest: number m is lost, number c is told
            have rest : ∀ (m c : Nat), m ∈ (rAdd (rNew r t) t).ths → rOne b r t = some (rEnd (rAdd (rNew r t) t) m, t.withN c) → ∀ (H6 : Hp) (ys6 : List V) (u : V), RnAt K H H6 p q l2 (rEnd (rAdd (rNew r t) t) m) us → H6 p = some (.lst ys6) → TokAt K H6 u (t.withN c) →
                (ys6.length < sizeLine ∧ ∃ (l' : Addr) (r' : R) (us' : List Tok) (v6 v7 : Option V), [some (.ref h), some (.bl b), some (.ref p), some (.ref q), some (.ref l2), some (.int ((rAdd (rNew r t) t).st : Nat)), some (.ref a), some (.int (m : Nat))] =
                  [some (.ref h), some (.bl b), some (.ref p), some (.ref q), some (.ref l'), some (.int (r'.st : Nat)), v6, v7] ∧
                  RnAt K H (upd H6 p (.lst (ys6 ++ [u]))) p q l' r' us' ∧ rPre b r' (ts.drop (i + 1)) ∧ us'.length = i + 1 ∧ r'.st ≤ i + 1 ∧ rAll b r0 ts = (rAll b r' (ts.drop (i + 1))).map (us' ++ ·)) := by
              intro m c hm e1 H6 ys6 u R6 hp6 hu6
              have est := rOne_st e1
              have est2 : (rEnd (rAdd (rNew r t) t) m).st = (rAdd (rNew r t) t).st := rfl
              obtain ⟨ys', q1, q2⟩ := R6.tl
              rw [hp6] at q1
              cases q1
              have q3 := q2.len
              refine ⟨small1000 (by omega), l2, rEnd (rAdd (rNew r t) t) m, us ++ [t.withN c], some (.ref a), some (.int (m : Nat)), rfl, R6.tok hp6 hu6, pr3 _ _ e1, by simp [ul], by omega, ?_⟩
              rw [ea]
              simp only [rAll, e1]
              rw [Option.map_map]
              congr 1
              funext z
              simp
            cases b with
            | true =>
              have mem := pr2 rfl n en
              have e3 : rOne true r t = some (rEnd (rAdd (rNew r t) t) n, t.withN ((rAdd (rNew r t) t).ths.idxOf n)) := by
                unfold rOne
                rw [en]
                rfl
              refine ⟨_, rfl, _, rfl, ?_⟩
              refine iteF ?_
              refine iteF ?_
              refine ⟨_, rfl, _, rfl, ?_⟩
              refine iteT ?_
              refine ⟨_, rfl, a, _, _, .int n, rfl, rfl, hv4, at1, ?_⟩
              refine ⟨_, rfl, _, rfl, l2, _, rfl, DPut.k (k := lkey n) hkv kvl, ?_⟩
              have R5 := R4.lose hkv n (.bl true) mem
              have ha5 : SqT K (upd H4 l2 (.dK (putK kvs (lkey n) (.bl true)))) a (.str t.head :: .int n :: tail2 t) := by rw [← vals_num en]; exact ha0 R5.sm
              generalize upd H4 l2 (.dK (putK kvs (lkey n) (.bl true))) = H5 at R5 ha5
              obtain ⟨ys5, hp5, _⟩ := R5.tl
              refine ⟨_, rfl, Or.inl ⟨rfl, _, SqL.of hp5⟩, ?_⟩
              refine ⟨_, rfl, a, _, _, .str t.head, rfl, rfl, ha5, at0, ?_⟩
              refine ⟨_, rfl, _, rfl, ?_⟩
              refine iteT ?_
              refine ⟨_, rfl, _, rfl, q, (rAdd (rNew r t) t).ths, n, rfl, SqL.of R5.th, R5.ri.srt, mem, by omega, ?_⟩
              refine ⟨by show 2 ≤ sizeLine; decide, fun q1 nq1 => ?_⟩
              refine ⟨_, rfl, 2, rfl, a, _, rfl, sameT (Same.new nq1) ha5, notwhole2, fun q2 nq2 => ?_⟩
              rw [cut2]
              have nq' : q1 ≠ q2 := fun z => by rw [← z, upd_same] at nq2; cases nq2
              refine ⟨q1, q2, _, _, rfl, rfl, SqT.of (by rw [upd_ne nq']; exact upd_same), SqT.of upd_same, by simp, ?_, ?_⟩
              · have := tail2_len t
                rw [sizeLine_eq]
                simp only [List.length_cons, List.length_nil]
                omega
              · have T1 := Same.new (o := .tup [V.str t.head, V.int ((rAdd (rNew r t) t).ths.idxOf n : Nat)]) nq1
                have T2 := T1.trans (Same.new (o := .tup (tail2 t)) nq2)
                have ev := vals_with en ((rAdd (rNew r t) t).ths.idxOf n)
                refine ⟨fun z => ?_, fun _ u nu => ?_⟩
                · obtain ⟨k1, k2⟩ := rest n _ mem e3 _ ys5 (.ref q1) (R5.same T2) (T2 _ _ hp5) ⟨q1, rfl, by
                    rw [ev, z]
                    exact SqT.of (by rw [upd_ne nq']; exact upd_same)⟩
                  exact ⟨p, ys5, _, rfl, rfl, T2 _ _ hp5, k1, k2⟩
                · have T3 := T2.trans (Same.new (o := .tup ([V.str t.head, V.int ((rAdd (rNew r t) t).ths.idxOf n : Nat)] ++ tail2 t)) nu)
                  obtain ⟨k1, k2⟩ := rest n _ mem e3 _ ys5 (.ref u) (R5.same T3) (T3 _ _ hp5) ⟨u, rfl, by
                    rw [ev]
                    exact SqT.of upd_same⟩
                  exact ⟨p, ys5, _, rfl, rfl, T3 _ _ hp5, k1, k2⟩
            | false =>
              have e3 : rOne false r t = match (rAdd (rNew r t) t).ths[n]? with | none => none | some m => some (rEnd (rAdd (rNew r t) t) m, t.withN m) := by
                unfold rOne
                rw [en]
                rfl
              refine ⟨_, rfl, _, rfl, ?_⟩
              refine iteT ?_
              refine ⟨_, rfl, a, _, _, .int n, rfl, rfl, hv4, at1, _, rfl, q, _, rfl, .inl (SqL.of R4.th), _, _, rfl, rfl, _, rfl, ?_⟩
              rw [List.length_map]
              refine ite2 (fun c => ?_) fun c => ?_
              · have c' : ((rAdd (rNew r t) t).ths.length : Int) ≤ n := of_decide_eq_true c
                rw [List.getElem?_eq_none (by omega)] at e3
                refine k H4 _ R4.sm ?_
                rw [ea]
                simp only [rAll, e3, Option.map_none]
              · have c' : ¬ ((rAdd (rNew r t) t).ths.length : Int) ≤ n := fun z => c (decide_eq_true z)
                have hn : n < (rAdd (rNew r t) t).ths.length := by omega
                rw [List.getElem?_eq_getElem hn] at e3
                generalize hm : (rAdd (rNew r t) t).ths[n] = m at e3
                have mem : m ∈ (rAdd (rNew r t) t).ths := by rw [← hm]; exact List.getElem_mem hn
                refine ⟨_, rfl, _, rfl, ?_⟩
                refine iteF ?_
                refine ⟨_, rfl, _, rfl, a, _, _, .int n, rfl, rfl, hv4, at1, q, _, _, .int (m : Nat), rfl, rfl, SqL.of R4.th, atI_nat (by simp [hn, hm]), ?_⟩
                refine ⟨_, rfl, _, rfl, l2, _, rfl, DPut.k (k := lkey m) hkv kvl, ?_⟩
                have R5 := R4.lose hkv m (.bl true) mem
                have ha5 : SqT K (upd H4 l2 (.dK (putK kvs (lkey m) (.bl true)))) a (.str t.head :: .int n :: tail2 t) := by rw [← vals_num en]; exact ha0 R5.sm
                generalize upd H4 l2 (.dK (putK kvs (lkey m) (.bl true))) = H5 at R5 ha5
                obtain ⟨ys5, hp5, _⟩ := R5.tl
                refine ⟨_, rfl, Or.inl ⟨rfl, _, SqL.of hp5⟩, ?_⟩
                refine ⟨_, rfl, a, _, _, .str t.head, rfl, rfl, ha5, at0, ?_⟩
                refine ⟨_, rfl, _, rfl, ?_⟩
                refine iteF ?_
                refine ⟨_, rfl, by show 2 ≤ sizeLine; decide, fun q1 nq1 => ?_⟩
                refine ⟨_, rfl, 2, rfl, a, _, rfl, sameT (Same.new nq1) ha5, notwhole2, fun q2 nq2 => ?_⟩
                rw [cut2]
                have nq' : q1 ≠ q2 := fun z => by rw [← z, upd_same] at nq2; cases nq2
                refine ⟨q1, q2, _, _, rfl, rfl, SqT.of (by rw [upd_ne nq']; exact upd_same), SqT.of upd_same, by simp, ?_, ?_⟩
                · have := tail2_len t
                  rw [sizeLine_eq]
                  simp only [List.length_cons, List.length_nil]
                  omega
                · have T1 := Same.new (o := .tup [V.str t.head, V.int (m : Nat)]) nq1
                  have T2 := T1.trans (Same.new (o := .tup (tail2 t)) nq2)
                  have ev := vals_with en m
                  refine ⟨fun z => ?_, fun _ u nu => ?_⟩
                  · obtain ⟨k1, k2⟩ := rest m _ mem e3 _ ys5 (.ref q1) (R5.same T2) (T2 _ _ hp5) ⟨q1, rfl, by
                      rw [ev, z]
                      exact SqT.of (by rw [upd_ne nq']; exact upd_same)⟩
                    exact ⟨p, ys5, _, rfl, rfl, T2 _ _ hp5, k1, k2⟩
                  · have T3 := T2.trans (Same.new (o := .tup ([V.str t.head, V.int (m : Nat)] ++ tail2 t)) nu)
                    obtain ⟨k1, k2⟩ := rest m _ mem e3 _ ys5 (.ref u) (R5.same T3) (T3 _ _ hp5) ⟨u, rfl, by
                      rw [ev]
                      exact SqT.of upd_same⟩
                    exact ⟨p, ys5, _, rfl, rfl, T3 _ _ hp5, k1, k2⟩
    · obtain ⟨l', r, us, v6, v7, rfl, R, pr, ul, st, ea⟩ := z
      rw [el, List.drop_length] at ea
      refine ⟨_, rfl, ?_⟩
      refine k H2 _ R.sm ?_
      rw [ea]
      obtain ⟨ys, h1, h2⟩ := R.tl
      simp only [rAll, Option.map_some, List.append_nil]
      exact ⟨p, ys, rfl, np, h1, h2⟩
end
end K13

set_option Elab.async false
set_option maxRecDepth 100000
set_option maxHeartbeats 4000000
set_option linter.all false
namespace K13
open PySem PySem.Spec PyProof.Rows L2
abbrev cIH (K : PySem.W.Frag) : Addr := He.ga K "InvalidHistory"
/-- any value that may be a history: None for what is no list -/
def HistV (K : PySem.W.Frag) (H : Hp) (v : V) : Option (List (Option Tok)) → Prop
  | some os => ∃ h xs, v = .ref h ∧ SqL K H h xs ∧ All2 (TV K H) xs os
  | none => NotL K H v
def flaw : Option (List (Option Tok)) → Option Int
  | none => some (-1)
  | some [] => some 0
  | some os => (gone s0 0 os).map fun i : Nat => (i : Int)
def osL : Option (List (Option Tok)) → List (Option Tok)
  | none => []
  | some os => os
def spCutG (K : PySem.W.Frag) : Sp := fun vs H Q E => ∃ (v : V) (o : Option (List (Option Tok))), vs = [v] ∧ HistV K H v o ∧ (osL o).length ≤ 450 ∧
  (flaw o = none → ∀ (H' : Hp) (p : Addr) (rs : List Addr), Same H H' → Fresh H p rs → TurnsAt K H' p rs (cutAll ((osL o).filterMap id)) → Q (.ref p) H') ∧
  (∀ i, flaw o = some i → ∀ (d0 : Addr) (H' : Hp), Same H H' → H d0 = none → H' d0 = some (.xd [("at", .int i)]) → E (.ref (cIH K)) (some d0) H')
def spCheckG (K : PySem.W.Frag) : Sp := fun vs H Q E => ∃ (v : V) (o : Option (List (Option Tok))), vs = [v] ∧ HistV K H v o ∧ (osL o).length ≤ 450 ∧
  (flaw o = none → ∀ (H' : Hp), Same H H' → Q (.int (cutAll ((osL o).filterMap id)).length) H') ∧
  (∀ i, flaw o = some i → ∀ (d0 : Addr) (H' : Hp), Same H H' → H d0 = none → H' d0 = some (.xd [("at", .int i)]) → E (.ref (cIH K)) (some d0) H')
theorem raise_at {K : PySem.W.Frag} {H0 H1 : Hp} {E : XK} {i : Int} (S : Same H0 H1) (k : ∀ (d0 : Addr) (H' : Hp), Same H0 H' → H0 d0 = none → H' d0 = some (.xd [("at", .int i)]) → E (.ref (cIH K)) (some d0) H') :
    ∀ (d0 : Addr) (H' : Hp), H1 d0 = none → H' d0 = some (.xd [("at", .int i)]) → (∀ b, b ≠ d0 → H' b = H1 b) → E (.ref (cIH K)) (some d0) H' :=
  fun d0 H' nd hd oth => k d0 H' (fun b o hb => by
    have := S b o hb
    rw [oth b (ne_of_none this nd)]
    exact this) (S.free nd) hd
theorem gone_all : ∀ (os : List (Option Tok)) (s : S) (i : Nat), gone s i os = none → (os.filterMap id).map some = os ∧ valid s (os.filterMap id) = true
  | [], _, _, _ => ⟨rfl, rfl⟩
  | none :: r, s, i, h => by cases h
  | some t :: r, s, i, h => by
    simp only [gone] at h
    split at h
    · rename_i m
      obtain ⟨h1, h2⟩ := gone_all r _ _ h
      have e : (some t :: r).filterMap id = t :: r.filterMap id := rfl
      rw [e]
      refine ⟨by rw [List.map_cons, h1], ?_⟩
      simp [valid, m, h2]
    · cases h
theorem gone_of {os : List (Option Tok)} (ne : os ≠ []) (h : flaw (some os) = none) : ∃ t r, os.filterMap id = t :: r ∧ os = (t :: r).map some ∧ t.outer = true ∧ valid s0 (t :: r) = true := by
  cases os with
  | nil => exact absurd rfl ne
  | cons a b =>
    have h' : gone s0 0 (a :: b) = none := by
      cases q : gone s0 0 (a :: b) with
      | none => rfl
      | some i => simp [flaw, q] at h
    obtain ⟨h1, h2⟩ := gone_all _ _ _ h'
    cases e : (a :: b).filterMap id with
    | nil => rw [e] at h1; cases h1
    | cons t r =>
      rw [e] at h1 h2
      exact ⟨t, r, rfl, h1.symm, begin_outer h2, h2⟩
theorem tv_some {K : PySem.W.Frag} {H : Hp} : ∀ {xs : List V} {ts : List Tok}, All2 (TV K H) xs (ts.map some) → All2 (TokAt K H) xs ts
  | [], [], _ => .nil
  | _ :: _, [], h => by cases h
  | [], _ :: _, h => by cases h
  | x :: xs, t :: ts, h => by
    cases h with
    | cons h1 h2 => exact .cons h1.1 (tv_some h2)
theorem tv_of {K : PySem.W.Frag} {H : Hp} {xs : List V} {ts : List Tok} (h : All2 (TokAt K H) xs ts) (ok : ∀ t ∈ ts, okW t) : All2 (TV K H) xs (ts.map some) := by
  induction h with
  | nil => exact .nil
  | cons h1 _ ih => exact .cons ⟨h1, ok _ List.mem_cons_self⟩ (ih fun t ht => ok t (List.mem_cons_of_mem _ ht))
section
variable {P : Program} {w : World} {K : PySem.W.Frag} {mg : Str → Option Value} {base : Heap}
theorem ok_cutG {f : Addr} {fd : FuncData} (F : FnP K "cut" "cut" s_cut f fd) (T : Tx w K mg) (E_InvalidHistory : ErrDef P w K mg base CX0 1 "InvalidHistory" (cIH K) ["self", "at"] ["at"])
    (G_gone_over : Def P w K mg base CX0 4 "gone_over" p_gone_over (spGone K)) (G_turns_in : Def P w K mg base CX0 2 "turns_in" p_turns_in (spTurnsIn K)) : FnOk P w K mg base (L2.CX P w) 5 f fd p_cut (spCutG K) := by
  refine F.ok sc_cut (fun vs H Q E h => ?_) (fun cdv A outer s H vs Q E hr h => ?_)
  · obtain ⟨v, o, rfl, _⟩ := h
    rfl
  · obtain ⟨v, o, rfl, hv, few, kq, ke⟩ := h
    refine ⟨_, (pss_cons (ps_if (pt_not (pt_val (pe_callB call_isi (by rfl) T.b_isinstance (by decide +kernel) (pa_cons (pv 0) (pa_cons (pe_bltn (v := .ty "list") (u := .type "list") (by rfl) T.b_list (by decide +kernel) rfl) pa_nil))))) (pss_one (ps_raise rfl (takes_of rfl rfl rfl rfl) (pmk_errL E_InvalidHistory (hr.mono (by decide)) (by rfl) pass0 (pa_cons (pe_un un_neg pe_int) pa_nil)))) pss_nil)
      (pss_cons (ps_set (i := 1) sc_cut.nd rfl (.inl rfl) (pe_ifExp (pt_cmpR op_eq (pe_callB call_len_seq (by rfl) T.b_len PySem.boot_len (pa_cons (pv 0) pa_nil)) pe_int (nomark _)) pe_int (pe_ix ix_tup (pe_fn G_gone_over (hr.mono (by decide)) (by rfl) pass0 (pa_cons (pv 0) pa_nil)) pe_int (fun _ _ => rfl))))
      (pss_cons (ps_if (pt_cmpR op_notN (pv 1) pe_non (nomark _)) (pss_one (ps_raise rfl (takes_of rfl rfl rfl rfl) (pmk_errL E_InvalidHistory (hr.mono (by decide)) (by rfl) pass0 (pa_cons (pv 1) pa_nil)))) pss_nil)
      (pss_one (ps_ret (pe_fn G_turns_in (hr.mono (by decide)) (by rfl) pass0 (pa_cons (pv 0) pa_nil))))))), ?_⟩
    cases o with
    | none =>
      obtain ⟨ty, h1, h2⟩ := NotL.ty hv
      refine ⟨_, rfl, v, .ty "list", _, _, false, rfl, .ty _, h1, h2, _, rfl, ?_⟩
      refine iteT ?_
      exact ⟨1, rfl, rfl, raise_at (Same.refl H) (ke _ rfl)⟩
    | some os =>
      obtain ⟨h, xs, rfl, hl, hos⟩ := hv
      have el := hos.len
      refine ⟨_, rfl, .ref h, .ty "list", _, _, true, rfl, .ty _, tyL hl, kit_ty (by decide +kernel), _, rfl, ?_⟩
      refine iteF ?_
      refine ⟨_, rfl, h, xs, rfl, .inl hl, rfl, _, rfl, ?_⟩
      refine ite2 (fun c => ?_) fun c => ?_
      · have e : os = [] := by
          have := of_decide_eq_true c
          injection this with z
          have : os.length = 0 := by omega
          exact List.length_eq_zero_iff.mp this
        subst e
        refine ⟨_, rfl, rfl, _, rfl, ?_⟩
        refine iteT' rfl ?_
        exact ⟨_, rfl, rfl, raise_at (Same.refl H) (ke _ rfl)⟩
      · have ne : os ≠ [] := fun z => c (decide_eq_true (by rw [el, z]; rfl))
        refine ⟨_, rfl, h, xs, os, rfl, hl, hos, few, fun H1 p d S1 np nd hp => ?_⟩
        have ef : flaw (some os) = (gone s0 0 os).map fun i : Nat => (i : Int) := by
          cases os with
          | nil => exact absurd rfl ne
          | cons a b => rfl
        refine ⟨p, _, _, _, rfl, rfl, hp, at0, ?_⟩
        refine ⟨_, rfl, rfl, _, rfl, ?_⟩
        cases eg : gone s0 0 os with
        | some i =>
          rw [eg] at ef
          refine iteT' (by rfl) ?_
          exact ⟨_, rfl, rfl, raise_at S1 (ke _ ef)⟩
        | none =>
          rw [eg] at ef
          refine iteF' (by rfl) ?_
          obtain ⟨t, r, e1, e2, e3, e4⟩ := gone_of ne ef
          rw [e2] at hos
          refine ⟨_, rfl, h, xs, t, r, rfl, S1.seq hl, (tv_some hos).imp fun x y _ z => z.same S1, e3, ?_, fun H2 q rs S2 fr ta => ?_⟩
          · have := congrArg List.length e2
            rw [List.length_map] at this
            rw [← this]
            exact few
          · refine kq ef H2 q rs (S1.trans S2) ⟨S1.free fr.1, fun x hx => S1.free (fr.2.1 x hx), fr.2.2⟩ ?_
            show TurnsAt K H2 q rs (cutAll (os.filterMap id))
            rw [e1]
            exact ta
theorem ok_checkG {f : Addr} {fd : FuncData} (F : FnP K "check" "check" s_check f fd) (T : Tx w K mg) (G_cut : Def P w K mg base (L2.CX P w) 5 "cut" p_cut (spCutG K)) : FnOk P w K mg base (L2.CX P w) 6 f fd p_check (spCheckG K) := by
  refine F.ok sc_check (fun vs H Q E h => ?_) (fun cdv A outer s H vs Q E hr h => ?_)
  · obtain ⟨v, o, rfl, _⟩ := h
    rfl
  · obtain ⟨v, o, rfl, hv, few, kq, ke⟩ := h
    refine ⟨_, (pss_one (ps_ret (pe_callB call_len_seq (by rfl) T.b_len PySem.boot_len (pa_cons (pe_fnS G_cut (hr.mono (by decide)) (by rfl) (takes_of rfl rfl rfl rfl) (pa_cons (pv 0) pa_nil)) pa_nil)))), ?_⟩
    refine ⟨_, rfl, v, o, rfl, hv, few, fun hf H1 p rs S1 fr ta => ?_, fun i hf d0 H1 S1 nd hd => ke i hf d0 H1 S1 nd hd⟩
    refine ⟨p, _, rfl, .inl (SqL.of ta.1), ?_⟩
    have := ta.2.len
    rw [List.length_map, this]
    exact kq hf H1 S1
theorem ok_aged {f : Addr} {fd : FuncData} (F : FnP K "aged" "aged" s_aged f fd) (T : Tx w K mg) (G_check : Def P w K mg base (L2.CX P w) 6 "check" p_check (spCheckG K))
    (G_turns_in : Def P w K mg base CX0 2 "turns_in" p_turns_in (spTurnsIn K)) (G_renumbered : Def P w K mg base CX0 2 "renumbered" p_renumbered (spRenum K)) : FnOk P w K mg base CX0 7 f fd p_aged (spAged K) := by
  refine F.ok sc_aged (fun vs H Q E h => ?_) (fun cdv A outer s H vs Q E hr h => ?_)
  · obtain ⟨h, xs, ts, rfl, _⟩ := h
    rfl
  · obtain ⟨h, xs, ts, rfl, hl, hts, ne, vd, ow, few, k⟩ := h
    refine ⟨_, PSs.nox (pss_cons (ps_expr (pe_fn G_check (hr.mono (by decide)) (by rfl) (passes_call (W := fun _ _ _ _ => False) takes0 (fun _ _ _ _ h => h)) (pa_cons (pv 0) pa_nil)))
      (pss_one (ps_ret (pe_fn G_turns_in (hr.mono (by decide)) (by rfl) pass0 (pa_cons (pe_fn G_renumbered (hr.mono (by decide)) (by rfl) pass0 (pa_cons (pv 0) (pa_cons pe_bl pa_nil))) pa_nil))))), ?_⟩
    have nes : ts.map some ≠ [] := by simpa using ne
    have fl : flaw (some (ts.map some)) = none := by
      have e := (gone_some ts s0 0).mpr vd
      cases ts with
      | nil => exact absurd rfl ne
      | cons a b =>
        show (gone s0 0 (some a :: b.map some)).map _ = none
        simp only [List.map_cons] at e
        rw [e]
        rfl
    have lm : (osL (some (ts.map some))).length ≤ 450 := by
      show (ts.map some).length ≤ 450
      rw [List.length_map]; omega
    refine ⟨_, rfl, .ref h, some (ts.map some), rfl, ⟨h, xs, rfl, hl, tv_of hts ow⟩, lm, fun _ H1 S1 => ?_, fun i z => ?_⟩
    · have pre : rPre true r0 ts := pre_true co0 vd (by show 0 + ts.length ≤ 63; omega)
      refine ⟨_, rfl, h, xs, true, ts, rfl, S1.seq hl, hts.imp fun x y _ z => z.same S1, pre, by omega, fun H2 v S2 hv => ?_⟩
      rw [all_true co0 vd] at hv
      obtain ⟨p, ys, rfl, np, hp, hys⟩ := hv
      have eo : ∃ t r, ageAll s0 ts = t :: r ∧ t.outer = true := by
        cases ts with
        | nil => exact absurd rfl ne
        | cons a b => exact ⟨_, _, rfl, by rw [age_outer]; exact begin_outer vd⟩
      obtain ⟨t, r, e1, e2⟩ := eo
      have el := congrArg List.length e1
      rw [ageAll_len] at el
      rw [e1] at hys k
      refine ⟨p, ys, t, r, rfl, SqL.of hp, hys, e2, by omega, fun H3 q rs S3 fr ta => ?_⟩
      have S13 := S1.trans S2
      exact k H3 q rs (S13.trans S3) ⟨S13.free fr.1, fun x hx => S13.free (fr.2.1 x hx), fr.2.2⟩ ta
    · rw [fl] at z
      cases z
end
end K13

set_option Elab.async false
set_option maxRecDepth 100000
set_option maxHeartbeats 4000000
set_option linter.all false
namespace K13
open PySem PySem.Spec PyProof.Rows L2
def spLike (K : PySem.W.Frag) : Sp := fun vs H Q _ => ∃ (v : V) (o : Option (List (Option Tok))), vs = [v] ∧ TurnV K H v o ∧ osLen o ≤ 450 ∧ ∀ H', Same H H' → Q (.bl (likeO o)) H'
theorem TV.sameAll {K : PySem.W.Frag} {H H' : Hp} {xs : List V} {os : List (Option Tok)} (h : All2 (TV K H) xs os) (e : Same H H') : All2 (TV K H') xs os := h.imp fun x y _ z => z.same e
section
variable {P : Program} {w : World} {K : PySem.W.Frag} {mg : Str → Option Value} {base : Heap}
theorem ok_like {f : Addr} {fd : FuncData} (F : FnP K "is_like_turn" "is_like_turn" s_is_like_turn f fd) (T : Tx w K mg) (G_has_form : Def P w K mg base CX0 3 "has_form" p_has_form (spHasForm K))
    (G_is_outer : Def P w K mg base CX0 1 "is_outer" p_is_outer (spIsOuter K)) : FnOk P w K mg base CX0 4 f fd p_is_like_turn (spLike K) := by
  refine F.ok sc_is_like_turn (fun vs H Q E h => ?_) (fun cdv A outer s H vs Q E hr h => ?_)
  · obtain ⟨v, o, rfl, _⟩ := h
    rfl
  · obtain ⟨v, o, rfl, hv, few, k⟩ := h
    refine ⟨_, PSs.nox (pss_cons (ps_if (PW.pt (pw_or (pt_not (pt_val (pe_callB call_isi (by rfl) T.b_isinstance (by decide +kernel) (pa_cons (pv 0) (pa_cons (pe_bltn (v := .ty "list") (u := .type "list") (by rfl) T.b_list (by decide +kernel) rfl) pa_nil))))) (pw_or (pt_cmpR op_eq (pe_callB call_len_seq (by rfl) T.b_len PySem.boot_len (pa_cons (pv 0) pa_nil)) pe_int (nomark _)) (pw_or1 (pt_not (pt_val (pe_callB (cr_all rfl) (by rfl) T.b_all (by decide +kernel) (pa_cons (pe_lc (own := [("token", 1)]) (g := (gName 1)) (by rfl) sc_is_like_turn.nd (pi_list (pv 0)) (blkOk_by (N := n_is_like_turn) (sc := defScope s_is_like_turn) (by decide +kernel)) (fun _ _ _ _ _ => (pg_name (i := 1) sc_is_like_turn.nd rfl (.inl rfl))) (fun _ _ _ _ _ => pts_nil) (fun _ _ _ _ _ => (pe_fn G_has_form (hr.mono (by decide)) (by rfl) pass0 (pa_cons (pv 1) pa_nil)))) pa_nil)))))))) (pss_one (ps_ret pe_bl)) pss_nil)
      (pss_one (ps_ret (pe_and (pe_fn G_is_outer (hr.mono (by decide)) (by rfl) pass0 (pa_cons (pe_ix ix_list (pv 0) pe_int (fun _ _ => rfl)) pa_nil)) (pe_one (pe_not (pe_callB (cr_any rfl) (by rfl) T.b_any (by decide +kernel) (pa_cons (pe_lc (own := [("token", 1)]) (g := (gName 1)) (by rfl) sc_is_like_turn.nd (pi_list (pe_slice sl_list (pv 0) (po_some pe_int) po_none)) (blkOk_by (N := n_is_like_turn) (sc := defScope s_is_like_turn) (by decide +kernel)) (fun _ _ _ _ _ => (pg_name (i := 1) sc_is_like_turn.nd rfl (.inl rfl))) (fun _ _ _ _ _ => pts_nil) (fun _ _ _ _ _ => (pe_fn G_is_outer (hr.mono (by decide)) (by rfl) pass0 (pa_cons (pv 1) pa_nil)))) pa_nil)))))))), ?_⟩
    cases o with
    | none =>
      obtain ⟨ty, h1, h2⟩ := NotL.ty hv
      refine ⟨_, rfl, v, .ty "list", _, _, false, rfl, .ty _, h1, h2, _, rfl, ?_⟩
      refine iteT ?_
      refine iteT ?_
      exact k H (Same.refl H)
    | some os =>
      obtain ⟨h, xs, rfl, hh, hos⟩ := hv
      have hl : SqL K H h xs := SqL.of hh
      have el := hos.len
      have few' : os.length ≤ 450 := few
      refine ⟨_, rfl, .ref h, .ty "list", _, _, true, rfl, .ty _, tyL hl, kit_ty (by decide +kernel), _, rfl, ?_⟩
      refine iteF ?_
      refine ⟨_, rfl, h, xs, rfl, .inl hl, rfl, _, rfl, ?_⟩
      refine ite2 (fun c => ?_) fun c => ?_
      · have e : os = [] := by
          have := of_decide_eq_true c
          injection this with z
          have : os.length = 0 := by omega
          exact List.length_eq_zero_iff.mp this
        subst e
        refine iteT ?_
        exact k H (Same.refl H)
      · have ne : os ≠ [] := fun z => c (decide_eq_true (by rw [el, z]; rfl))
        refine ⟨_, rfl, h, rfl, ⟨xs, hl⟩, fun D nD => ?_⟩
        refine lc_list (K := K) (a := h) (xs := xs) (fun i H2 => Same H H2 ∧ H2 D = some (.lst ((os.take i).map fun o => V.bl o.isSome))) ⟨Same.new nD, upd_same⟩
          (fun i H2 _ q => q.1.seq hl) (fun i x H2 hi q => ?_) (fun H2 q => ?_)
        · obtain ⟨S2, hD⟩ := q
          obtain ⟨o, ho, hv⟩ := hos.get hi
          have hil : i < os.length := (List.getElem?_eq_some_iff.mp ho).1
          refine ⟨rfl, ?_⟩
          refine tYes_ ?_
          refine iteT ?_
          refine ⟨_, rfl, x, o, rfl, hv.same S2, fun H3 S3 => ?_⟩
          refine ⟨_, S3 _ _ hD, ?_, fun b u hb => ?_, ?_⟩
          · rw [List.length_map, List.length_take]
            exact small1000 (by omega)
          · rw [upd_ne (ne_of_none hb nD)]
            exact S3 _ _ (S2 _ _ hb)
          · rw [upd_same, take_more ho, List.map_append]
            rfl
        · obtain ⟨S2, hD⟩ := q
          rw [el, List.take_length] at hD
          refine ⟨D, os.map Option.isSome, rfl, SqL.of ?_, _, rfl, ?_⟩
          · rw [hD, List.map_map]
            rfl
          have ea : (os.map Option.isSome).all id = os.all Option.isSome := by rw [List.all_map]; rfl
          rw [ea]
          cases al : os.all Option.isSome with
          | false =>
            refine iteT ?_
            have e : likeO (some os) = false := by simp [likeO, al]
            rw [← e]
            exact k H2 S2
          | true =>
            refine iteF ?_
            have e1 := all_some al
            generalize et : os.filterMap id = ts at e1
            have elo : likeO (some os) = likeT ts := by simp [likeO, al, et]
            rw [elo] at k
            rw [← e1] at hos few'
            rw [List.length_map] at few'
            have hts := tv_some hos
            cases ts with
            | nil => exact absurd (by rw [← e1]; rfl) ne
            | cons t r =>
              cases hts with
              | cons hv0 hr0 =>
                rename_i x xr
                have hl2 := S2.seq hl
                refine ⟨_, rfl, h, _, 0, x, rfl, rfl, hl2, at0, x, t, rfl, hv0.same S2, ?_⟩
                refine ⟨_, rfl, ?_⟩
                cases o : t.outer with
                | false =>
                  refine iteF ?_
                  have e : likeT (t :: r) = false := by simp [likeT, o]
                  rw [← e]
                  exact k H2 S2
                | true =>
                  refine iteT ?_
                  refine ⟨_, rfl, 1, rfl, h, _, rfl, hl2, fun p np => ?_⟩
                  have ec : cutV (x :: xr) (some 1) none = xr := by
                    unfold cutV
                    simp [HT.sIx]
                  rw [ec]
                  have S3 : Same H2 (upd H2 p (.lst xr)) := Same.new np
                  have hp3 : upd H2 p (.lst xr) p = some (.lst xr) := upd_same
                  have er : xr.length = r.length := hr0.len
                  simp only [List.length_cons] at few'
                  generalize upd H2 p (.lst xr) = H3 at S3 hp3
                  refine ⟨p, rfl, ⟨xr, SqL.of hp3⟩, fun D2 nD2 => ?_⟩
                  refine lc_list (K := K) (a := p) (xs := xr) (fun i H4 => Same H3 H4 ∧ H4 D2 = some (.lst ((r.take i).map fun u => V.bl u.outer))) ⟨Same.new nD2, upd_same⟩
                    (fun i H4 _ q => SqL.of (q.1 _ _ hp3)) (fun i y H4 hi q => ?_) (fun H4 q => ?_)
                  · obtain ⟨S4, hD4⟩ := q
                    obtain ⟨u, hu, hv⟩ := hr0.get hi
                    have hil : i < r.length := (List.getElem?_eq_some_iff.mp hu).1
                    refine ⟨rfl, ?_⟩
                    refine tYes_ ?_
                    refine iteT ?_
                    refine ⟨_, rfl, y, u, rfl, ((hv.same S2).same S3).same S4, ?_⟩
                    refine ⟨_, hD4, ?_, fun b z hb => ?_, ?_⟩
                    · rw [List.length_map, List.length_take]
                      exact small1000 (by omega)
                    · rw [upd_ne (ne_of_none hb nD2)]
                      exact S4 _ _ hb
                    · rw [upd_same, take_more hu, List.map_append]
                      rfl
                  · obtain ⟨S4, hD4⟩ := q
                    rw [er, List.take_length] at hD4
                    refine ⟨D2, r.map Tok.outer, rfl, SqL.of ?_, _, rfl, ?_⟩
                    · rw [hD4, List.map_map]
                      rfl
                    have e : likeT (t :: r) = !((r.map Tok.outer).any id) := by
                      simp only [likeT, o, Bool.true_and]
                      rw [List.any_map]
                      rw [Bool.eq_iff_iff]
                      simp
                    rw [← e]
                    exact k H4 ((S2.trans S3).trans S4)
end
end K13

set_option Elab.async false
set_option maxRecDepth 100000
set_option maxHeartbeats 4000000
set_option linter.all false
namespace K13
open PySem PySem.Spec PyProof.Rows L2
def okSz : Option (List (Option (List (Option Tok)))) → Prop
  | none => True
  | some l => l.length ≤ 440 ∧ (l.map osLen).sum ≤ 440 ∧ ∀ o ∈ l, osLen o ≤ 63
def spNumbered (K : PySem.W.Frag) : Sp := fun vs H Q E => ∃ (v : V) (o : Option (List (Option (List (Option Tok))))), vs = [v] ∧ TurnsV K H v o ∧ okSz o ∧
  (∀ us, pNum o = some us → ∀ (p : Addr) (H' : Hp) (xs : List V), Same H H' → H p = none → H' p = some (.lst xs) → All2 (TokAt K H') xs us → Q (.ref p) H') ∧
  (pNum o = none → ∀ (d0 : Addr) (H' : Hp), Same H H' → H d0 = none → H' d0 = some (.xd [("part", .str "turns")]) → E (.ref (cIA K)) (some d0) H')
def spTold (K : PySem.W.Frag) : Sp := fun vs H Q _ => ∃ (v : V) (o : Option (List (Option (List (Option Tok))))), vs = [v] ∧ TurnsV K H v o ∧ okSz o ∧
  (∀ (a : Addr) (H' : Hp), Same H H' → H a = none → (match pNum o with
    | some us => ∃ p xs, H' a = some (.tup [.str "told", .ref p]) ∧ H p = none ∧ H' p = some (.lst xs) ∧ All2 (TokAt K H') xs us
    | none => H' a = some (.tup [.str "refused", .str "turns"])) → Q (.ref a) H')
theorem withN_w (t : Tok) (n : Nat) : (t.withN n).words = t.words := by cases t <;> rfl
theorem rAll_ok {b : Bool} : ∀ {ts us : List Tok} {r : R}, rAll b r ts = some us → (∀ t ∈ ts, okW t) → ∀ u ∈ us, okW u
  | [], us, r, e, _ => by simp [rAll] at e; subst e; simp
  | t :: ts, us, r, e, h => by
    simp only [rAll] at e
    split at e
    · cases e
    · rename_i r' u h1
      obtain ⟨vs, h2, h3⟩ := Option.map_eq_some_iff.mp e
      subst h3
      have hu : u.words = t.words := by
        unfold rOne at h1
        split at h1
        · cases h1; rfl
        · split at h1
          · cases h1; exact withN_w t _
          · split at h1
            · cases h1
            · cases h1; exact withN_w t _
      intro x hx
      rcases List.mem_cons.mp hx with q | q
      · rw [q]
        intro z hz
        rw [hu] at hz
        exact h t List.mem_cons_self z hz
      · exact rAll_ok h2 (fun t ht => h t (List.mem_cons_of_mem _ ht)) x q
/-- the inner list of a comprehension with two -/
theorem in_list {K : PySem.W.Frag} {a : Addr} {xs : List V} {g1 : TG} {tt1 : TT} {te : TE} {vs1 : List Nat} {σ2 : L2.St} {H4 : Hp} {D : Addr} {N : Hp → Prop} (Pj : Nat → Hp → Prop) (h0 : Pj 0 H4) (hl : ∀ j H, j ≤ xs.length → Pj j H → SqL K H a xs)
    (hs : ∀ j x H, xs[j]? = some x → Pj j H → g1 x (wipe σ2 vs1) H fun σ3 H5 => wipe σ3 vs1 = wipe σ2 vs1 ∧ tt1 σ3 H5 fun b H6 => if b = true then te σ3 H6 fun y H7 => ∃ acc, H7 D = some (.lst acc) ∧ acc.length < sizeLine ∧ Pj (j + 1) (upd H7 D (.lst (acc ++ [y]))) else Pj (j + 1) H6)
    (hd : ∀ H, Pj xs.length H → N H) :
    ∃ W1 : Nat → Nat → Hp → Prop, (∃ m, W1 0 m H4) ∧ ∀ j k H, W1 j k H → ((Itl K a).stop j H ∧ N H) ∨ ((Itl K a).go j H ∧ ∃ N1 : Hp → Prop, (∀ H', N1 H' → ∃ k', k' < k ∧ W1 (j + 1) k' H') ∧
      ∀ x H', (Itl K a).yld j H x H' → g1 x (wipe σ2 vs1) H' fun σ3 H5 => wipe σ3 vs1 = wipe σ2 vs1 ∧ tt1 σ3 H5 fun b H6 => if b = true then te σ3 H6 fun y H7 => ∃ acc, H7 D = some (.lst acc) ∧ acc.length < sizeLine ∧ N1 (upd H7 D (.lst (acc ++ [y]))) else N1 H6) := by
  refine ⟨fun j k H => k = xs.length - j ∧ j ≤ xs.length ∧ Pj j H, ⟨_, rfl, Nat.zero_le _, h0⟩, ?_⟩
  rintro j k H ⟨rfl, hj, p⟩
  have q := hl j H hj p
  rcases Nat.lt_or_ge j xs.length with hlt | hge
  · refine .inr ⟨⟨xs, xs[j], q, List.getElem?_eq_getElem hlt⟩, Pj (j + 1), fun H' p' => ⟨_, by omega, rfl, hlt, p'⟩, fun x H' y => ?_⟩
    obtain ⟨e, y⟩ := y
    rw [e]
    exact hs j x H (y xs q) p
  · have e : j = xs.length := Nat.le_antisymm hj hge
    subst e
    exact .inl ⟨⟨xs, q, Nat.le_refl _⟩, hd H p⟩
theorem flat_take {l : List (Option (List (Option Tok)))} {i : Nat} {o : Option (List (Option Tok))} (h : l[i]? = some o) : flatT (l.take (i + 1)) = flatT (l.take i) ++ (o.getD []).filterMap id := by
  unfold flatT
  rw [take_more h, List.map_append, List.flatten_append]
  simp
theorem flat_few {l : List (Option (List (Option Tok)))} : (flatT l).length ≤ (l.map osLen).sum := by
  induction l with
  | nil => simp [flatT]
  | cons o l ih =>
    have e : flatT (o :: l) = (o.getD []).filterMap id ++ flatT l := rfl
    rw [e, List.length_append]
    simp only [List.map_cons, List.sum_cons]
    have : ((o.getD []).filterMap id).length ≤ osLen o := by
      cases o with
      | none => simp [osLen]
      | some os => exact List.length_filterMap_le _ _
    omega
theorem sum_take_le (l : List Nat) (i : Nat) : (l.take i).sum ≤ l.sum := by
  have : l.sum = (l.take i ++ l.drop i).sum := by rw [List.take_append_drop]
  rw [this, List.sum_append]
  omega
section
variable {P : Program} {w : World} {K : PySem.W.Frag} {mg : Str → Option Value} {base : Heap}
theorem ok_numbered {f : Addr} {fd : FuncData} (F : FnP K "numbered" "numbered" s_numbered f fd) (T : Tx w K mg)
    (E_InvalidArgument : ErrDef P w K mg base CX0 1 "InvalidArgument" (cIA K) ["self", "part"] ["part"])
    (G_is_like_turn : Def P w K mg base CX0 4 "is_like_turn" p_is_like_turn (spLike K)) (G_renumbered : Def P w K mg base CX0 2 "renumbered" p_renumbered (spRenum K))
    (G_gone_over : Def P w K mg base CX0 4 "gone_over" p_gone_over (spGone K)) : FnOk P w K mg base (L2.CX P w) 6 f fd p_numbered (spNumbered K) := by
  refine F.ok sc_numbered (fun vs H Q E h => ?_) (fun cdv A outer s H vs Q E hr h => ?_)
  · obtain ⟨v, o, rfl, _⟩ := h
    rfl
  · obtain ⟨v, o, rfl, hv, sz, kq, ke⟩ := h
    refine ⟨_, (pss_cons (ps_if (PW.pt (pw_or (pt_not (pt_val (pe_callB call_isi (by rfl) T.b_isinstance (by decide +kernel) (pa_cons (pv 0) (pa_cons (pe_bltn (v := .ty "list") (u := .type "list") (by rfl) T.b_list (by decide +kernel) rfl) pa_nil))))) (pw_or1 (pt_not (pt_val (pe_callB (cr_all rfl) (by rfl) T.b_all (by decide +kernel) (pa_cons (pe_lc (own := [("turn", 2)]) (g := (gName 2)) (by rfl) sc_numbered.nd (pi_list (pv 0)) (blkOk_by (N := n_numbered) (sc := defScope s_numbered) (by decide +kernel)) (fun _ _ _ _ _ => (pg_name (i := 2) sc_numbered.nd rfl (.inl rfl))) (fun _ _ _ _ _ => pts_nil) (fun _ _ _ _ _ => (pe_fn G_is_like_turn (hr.mono (by decide)) (by rfl) pass0 (pa_cons (pv 2) pa_nil)))) pa_nil))))))) (pss_one (ps_raise rfl (takes_of rfl rfl rfl rfl) (pmk_errL E_InvalidArgument (hr.mono (by decide)) (by rfl) pass0 (pa_cons pe_str pa_nil)))) pss_nil)
      (pss_cons (ps_set (i := 1) sc_numbered.nd rfl (.inl rfl) (pe_fn G_renumbered (hr.mono (by decide)) (by rfl) pass0 (pa_cons (pe_lc2 (own := [("turn", 2), ("token", 3)]) (g := (gName 2)) (g1 := (gName 3)) (wi1 := iList K (tVar 2)) (vs1 := [3]) rfl sc_numbered.nd (pi_list (pv 0)) (blkOk_by (N := n_numbered) (sc := defScope s_numbered) (by decide +kernel)) (by decide) (fun _ _ _ _ _ => (pg_name (i := 2) sc_numbered.nd rfl (.inl rfl))) (fun _ _ _ _ _ => pts_nil) (fun _ _ _ _ _ => (pi_list (pv 2))) (fun _ _ _ _ _ => (pg_name (i := 3) sc_numbered.nd rfl (.inl rfl))) (fun _ _ _ _ _ => pts_nil) (fun _ _ _ _ _ => (pv 3))) (pa_cons pe_bl pa_nil))))
      (pss_cons (ps_if (PW.pt (pw_or (pt_cmpR op_isN (pv 1) pe_non (nomark _)) (pw_or (pt_cmpR op_eq (pe_callB call_len_seq (by rfl) T.b_len PySem.boot_len (pa_cons (pv 1) pa_nil)) pe_int (nomark _)) (pw_or1 (pt_cmpR op_notN (pe_ix ix_tup (pe_fn G_gone_over (hr.mono (by decide)) (by rfl) pass0 (pa_cons (pv 1) pa_nil)) pe_int (fun _ _ => rfl)) pe_non (nomark _)))))) (pss_one (ps_raise rfl (takes_of rfl rfl rfl rfl) (pmk_errL E_InvalidArgument (hr.mono (by decide)) (by rfl) pass0 (pa_cons pe_str pa_nil)))) pss_nil)
      (pss_one (ps_ret (pv 1)))))), ?_⟩
    cases o with
    | none =>
      obtain ⟨ty, h1, h2⟩ := NotL.ty hv
      refine ⟨_, rfl, v, .ty "list", _, _, false, rfl, .ty _, h1, h2, _, rfl, ?_⟩
      refine iteT ?_
      refine iteT ?_
      exact raise_none (Same.refl H) (ke rfl)
    | some l =>
      obtain ⟨r, xs, rfl, hr0, hts⟩ := hv
      obtain ⟨sz1, sz2, sz3⟩ := sz
      have el := hts.len
      have hl : SqL K H r xs := SqL.of hr0
      have epN : pNum (some l) = pBack l := rfl
      rw [epN, numbered_eq] at kq ke
      refine ⟨_, rfl, .ref r, .ty "list", _, _, true, rfl, .ty _, tyL hl, kit_ty (by decide +kernel), _, rfl, ?_⟩
      refine iteF ?_
      refine ⟨_, rfl, r, rfl, ⟨xs, hl⟩, fun D nD => ?_⟩
      refine lc_list (K := K) (a := r) (xs := xs) (fun i H2 => Same H H2 ∧ H2 D = some (.lst ((l.take i).map fun o => V.bl (likeO o)))) ⟨Same.new nD, upd_same⟩
        (fun i H2 _ q => q.1.seq hl) (fun i x H2 hi q => ?_) (fun H2 q => ?_)
      · obtain ⟨S2, hD⟩ := q
        obtain ⟨o, ho, hv⟩ := hts.get hi
        have hil : i < l.length := (List.getElem?_eq_some_iff.mp ho).1
        refine ⟨rfl, ?_⟩
        refine tYes_ ?_
        refine iteT ?_
        have hv2 : TurnV K H2 x o := by
          cases o with
          | none => exact hv.same S2
          | some os =>
            obtain ⟨a, zs, e1, e2, e3⟩ := hv
            exact ⟨a, zs, e1, S2 _ _ e2, TV.sameAll e3 S2⟩
        have := sz3 o (List.mem_of_getElem? ho)
        refine ⟨_, rfl, x, o, rfl, hv2, by omega, fun H3 S3 => ?_⟩
        refine ⟨_, S3 _ _ hD, ?_, fun b u hb => ?_, ?_⟩
        · rw [List.length_map, List.length_take]
          exact small1000 (by omega)
        · rw [upd_ne (ne_of_none hb nD)]
          exact S3 _ _ (S2 _ _ hb)
        · rw [upd_same, take_more ho, List.map_append]
          rfl
      · obtain ⟨S2, hD⟩ := q
        rw [el, List.take_length] at hD
        refine ⟨D, l.map likeO, rfl, SqL.of ?_, _, rfl, ?_⟩
        · rw [hD, List.map_map]
          rfl
        have ea : (l.map likeO).all id = l.all likeO := by rw [List.all_map]; rfl
        rw [ea]
        cases al : l.all likeO with
        | false =>
          refine iteT ?_
          rw [al] at ke
          exact raise_none S2 (ke rfl)
        | true =>
          refine iteF ?_
          rw [al] at ke kq
          simp only [if_true] at ke kq
          obtain ⟨lk1, lk2⟩ := like_lift al
          -- the tokens of all turns in one list
          refine ⟨_, rfl, r, rfl, ⟨xs, S2.seq hl⟩, fun D2 nD2 => ?_⟩
          have hD20 : H D2 = none := S2.free nD2
          refine ⟨fun i m H' => m = xs.length - i ∧ i ≤ xs.length ∧ (Same H H' ∧ ∃ ys, H' D2 = some (.lst ys) ∧ All2 (TokAt K H) ys (flatT (l.take i))), ⟨_, rfl, Nat.zero_le _, S2.trans (Same.new nD2), [], upd_same, .nil⟩, ?_⟩
          rintro i m H3 ⟨rfl, hi, S3, ys, hD3, hys⟩
          have hl3 := S3.seq hl
          rcases Nat.lt_or_ge i xs.length with hlt | hge
          · refine .inr ⟨⟨xs, xs[i], hl3, List.getElem?_eq_getElem hlt⟩, fun H' => Same H H' ∧ ∃ ys, H' D2 = some (.lst ys) ∧ All2 (TokAt K H) ys (flatT (l.take (i + 1))), fun H' p' => ⟨_, by omega, rfl, hlt, p'⟩, fun x H' y => ?_⟩
            obtain ⟨e, y⟩ := y
            subst e
            obtain ⟨o, ho, hv⟩ := hts.get (y xs hl3)
            have hol := sz3 o (List.mem_of_getElem? ho)
            have hok : likeO o = true := List.all_eq_true.mp al o (List.mem_of_getElem? ho)
            cases o with
            | none => cases hok
            | some os =>
              obtain ⟨a, zs, e1, e2, e3⟩ := hv
              subst e1
              have e4 : os.all Option.isSome = true := by
                simp only [likeO, Bool.and_eq_true] at hok
                exact hok.1
              have e5 := all_some e4
              rw [← e5] at e3
              have e6 := tv_some e3
              have ezl := e6.len
              have eft := flat_take ho
              have efl : (flatT (l.take i)).length ≤ 440 := by
                have h1 := flat_few (l := l.take i)
                have h2 := sum_take_le (l.map osLen) i
                rw [← List.map_take] at h2
                omega
              have eyl := hys.len
              have ezl2 : zs.length ≤ 63 := by
                have := List.length_filterMap_le (id : Option Tok → Option Tok) os
                have h3 : os.length ≤ 63 := hol
                omega
              refine ⟨rfl, ?_⟩
              refine tYes_ ?_
              refine iteT ?_
              refine ⟨_, rfl, a, rfl, ⟨zs, S3.seq (SqL.of e2)⟩, ?_⟩
              refine in_list (K := K) (a := a) (xs := zs) (fun j H4 => Same H H4 ∧ H4 D2 = some (.lst (ys ++ zs.take j))) ⟨S3, by simpa using hD3⟩ (fun j H4 _ q => q.1.seq (SqL.of e2)) (fun j x H4 hj q => ?_) (fun H4 q => ?_)
              · obtain ⟨S4, hD4⟩ := q
                refine ⟨rfl, ?_⟩
                refine tYes_ ?_
                refine iteT ?_
                refine ⟨_, rfl, _, hD4, ?_, fun b u hb => ?_, ?_⟩
                · rw [List.length_append, List.length_take]
                  exact small1000 (by omega)
                · rw [upd_ne (ne_of_none hb hD20)]
                  exact S4 _ _ hb
                · rw [upd_same, take_more hj, List.append_assoc]
              · obtain ⟨S4, hD4⟩ := q
                rw [List.take_length] at hD4
                refine ⟨S4, _, hD4, ?_⟩
                rw [eft]
                exact All2.app hys e6
          · have e : i = xs.length := Nat.le_antisymm hi hge
            subst e
            refine .inl ⟨⟨xs, hl3, Nat.le_refl _⟩, ?_⟩
            rw [el, List.take_length] at hys
            have efl : (flatT l).length ≤ 440 := Nat.le_trans flat_few sz2
            have pre : rPre false r0 (flatT l) := by
              refine pre_turns _ r0 (fun ts hm => ⟨lk2 ts hm, ?_⟩) (Nat.zero_le _)
              obtain ⟨o, ho, e⟩ := List.mem_map.mp hm
              have := sz3 o ho
              rw [← e]
              cases o with
              | none => simp
              | some os => exact Nat.le_trans (List.length_filterMap_le _ _) this
            refine ⟨D2, ys, false, flatT l, rfl, SqL.of hD3, hys.imp fun x y _ z => z.same S3, pre, by omega, fun H4 v S4 hv => ?_⟩
            have S5 := S3.trans S4
            cases er : rAll false r0 (flatT l) with
            | none =>
              rw [er] at hv kq ke
              simp only at hv
              subst hv
              refine ⟨_, rfl, rfl, _, rfl, ?_⟩
              refine iteT' (by rfl) ?_
              refine iteT ?_
              exact raise_none S5 (ke rfl)
            | some us =>
              rw [er] at hv kq ke
              obtain ⟨p, ys2, rfl, np, hp, hys2⟩ := hv
              have eul := rAll_len er
              have y2 := hys2.len
              have np0 : H p = none := S3.free np
              refine ⟨_, rfl, rfl, _, rfl, ?_⟩
              refine iteF' (by rfl) ?_
              refine ⟨_, rfl, p, ys2, rfl, .inl (SqL.of hp), rfl, _, rfl, ?_⟩
              cases us with
              | nil =>
                have : ys2.length = 0 := by rw [y2]; rfl
                refine iteT' (by rw [this]; rfl) ?_
                refine iteT ?_
                exact raise_none S5 (ke rfl)
              | cons u0 ur =>
                have : (ys2.length : Int) ≠ 0 := by
                  simp only [List.length_cons] at y2
                  omega
                refine iteF' (decide_eq_false fun z => by injection z with z; exact this z) ?_
                have okus : ∀ u ∈ (u0 :: ur), okW u := by
                  refine rAll_ok er fun t ht => ?_
                  obtain ⟨ts, h1, h2⟩ := List.mem_flatten.mp ht
                  obtain ⟨o, ho, e⟩ := List.mem_map.mp h1
                  obtain ⟨j, hj, e2⟩ := List.mem_iff_getElem.mp ho
                  have hx : xs[j]? = some (xs[j]'(by omega)) := List.getElem?_eq_getElem _
                  obtain ⟨o', ho', hv'⟩ := hts.get hx
                  rw [List.getElem?_eq_getElem hj, e2] at ho'
                  cases ho'
                  cases o with
                  | none => rw [← e] at h2; simp at h2
                  | some os =>
                    obtain ⟨_, zs, _, _, h3⟩ := hv'
                    rw [← e] at h2
                    have h4 : some t ∈ os := by
                      obtain ⟨y, hy, hy2⟩ := List.mem_filterMap.mp h2
                      rw [← hy2]
                      exact hy
                    obtain ⟨m, hm, e5⟩ := List.mem_iff_getElem.mp h4
                    have hzl := h3.len
                    have hz : zs[m]? = some (zs[m]'(by omega)) := List.getElem?_eq_getElem _
                    obtain ⟨y, hy, hy2⟩ := h3.get hz
                    rw [List.getElem?_eq_getElem hm, e5] at hy
                    cases hy
                    exact hy2.2
                refine ⟨_, rfl, p, ys2, (u0 :: ur).map some, rfl, SqL.of hp, tv_of hys2 okus, by rw [List.length_map]; omega, fun H6 pp dd S6 n6 nd6 hp6 => ?_⟩
                refine ⟨pp, _, _, _, rfl, rfl, hp6, at0, rfl, _, rfl, ?_⟩
                have S7 := S5.trans S6
                have eg := gone_some (u0 :: ur) s0 0
                cases vd : valid s0 (u0 :: ur) with
                | false =>
                  have : gone s0 0 ((u0 :: ur).map some) ≠ none := fun z => by
                    have := eg.mp z
                    rw [vd] at this
                    cases this
                  cases q : gone s0 0 ((u0 :: ur).map some) with
                  | none => exact absurd q this
                  | some i =>
                    refine iteT' (by rfl) ?_
                    refine raise_none S7 (ke ?_)
                    simp only [chk, vd, Bool.false_eq_true, if_false]
                | true =>
                  rw [eg.mpr vd]
                  refine iteF' (by rfl) ?_
                  refine ⟨_, rfl, ?_⟩
                  refine kq (u0 :: ur) ?_ p H6 ys2 S7 np0 (S6 _ _ hp) (hys2.imp fun x y _ z => z.same S6)
                  simp only [chk, vd, if_true, List.isEmpty_cons, Bool.false_eq_true, if_false]
theorem ok_told {f : Addr} {fd : FuncData} (F : FnP K "_law_told" "_law_told" s__law_told f fd) (T : Tx w K mg) (xf : XfC K (cIA K)) (gIA : mg "InvalidArgument" = some (.ref (cIA K))) (hno : PySem.W.findIn K (.ref (cIA K)) "part" = some none)
    (te : PySem.W.exmOne K (.ref (cIA K)) (.ref (cIA K)) = some true)
    (G_numbered : Def P w K mg base (L2.CX P w) 6 "numbered" p_numbered (spNumbered K)) : FnOk P w K mg base CX0 7 f fd p__law_told (spTold K) := by
  refine F.ok sc__law_told (fun vs H Q E h => ?_) (fun cdv A outer s H vs Q E hr h => ?_)
  · obtain ⟨v, o, rfl, _⟩ := h
    rfl
  · obtain ⟨v, o, rfl, hv, few, k⟩ := h
    refine ⟨_, pss_one (ps_try_as (i := 1) (tb := fun W => tRet (tTup (tCons (tC (.str "told")) (tCons (tCallS (spNumbered K) (WE W) (tCons (tVar 0) tNil)) tNil))))
      (ts := fun a cls d => tRet (tTup (tCons (tC (.str "refused")) (tCons (tXf a cls d (cIA K) "part" (tVar 1)) tNil)))) (Wout := fun _ _ _ _ => False) rfl rfl sc__law_told.nd rfl rfl ⟨rfl, by decide, .inl gIA⟩ takes0
      (fun W pn xe tk _ => pss_one (ps_ret (pe_tup (pa_cons pe_str (pa_cons (by exact (pe_fnS G_numbered (hr.mono (by decide)) (by rfl) tk (pa_cons (pv 0) pa_nil))) pa_nil)))))
      (fun a oe cls d pn hz hf => pss_one (ps_ret (pe_tup (pa_cons pe_str (pa_cons (by exact (pe_xf xf hno hz hf (pv 1))) pa_nil)))))), ?_⟩
    refine ⟨_, rfl, v, o, rfl, hv, few, fun us hu p H' xs S np hp hxs => ?_, fun hu d0 H' S nd hd => ?_⟩
    · refine ⟨by show 2 ≤ sizeLine; decide, fun a na => ?_⟩
      refine k a _ (S.trans (Same.new na)) (S.free na) ?_
      rw [hu]
      exact ⟨p, xs, upd_same, np, by rw [upd_ne (ne_of_none hp na)]; exact hp, hxs.imp fun x y _ q => q.same (Same.new na)⟩
    · refine ⟨true, te, fun _ a0 ha0 => ?_, fun q => Bool.noConfusion q⟩
      refine ⟨_, rfl, rfl, rfl, d0, _, .str "turns", rfl, hd, rfl, by show 2 ≤ sizeLine; decide, fun a na => ?_⟩
      refine k a _ (S.trans (Same.new na)) (S.free na) ?_
      rw [hu]
      exact upd_same
end
end K13

set_option Elab.async false
set_option maxRecDepth 100000
set_option maxHeartbeats 4000000
set_option linter.all false
namespace K13
open PySem PySem.Spec PyProof.Rows L2
/-! ### the bag of draws -/
def bagK (c : Addr) (at_ : Nat) (rest seed many : Int) : List (Key × V) := [(.inr "cells", .ref c), (.inr "at", .int at_), (.inr "rest", .int rest), (.inr "seed", .int seed), (.inr "many", .int many)]
/-- a bag stands at b, its cells at c -/
def Bg (H : Hp) (b c : Addr) : Prop := ∃ (at_ : Nat) (rest seed many : Int) (ns : List Int), H b = some (.dK (bagK c at_ rest seed many)) ∧ H c = some (.lst (ns.map V.int))
theorem Bg.ne {H : Hp} {b c : Addr} (h : Bg H b c) : b ≠ c := by
  obtain ⟨_, _, _, _, _, h1, h2⟩ := h
  exact ne_of h1 h2 (by intro z; cases z)
theorem dg_cells {H : Hp} {b c : Addr} {a : Nat} {r s m : Int} (h : H b = some (.dK (bagK c a r s m))) : DGet H b (.str "cells") (some (.ref c)) := DGet.k (k := .inr "cells") h
theorem dg_at {H : Hp} {b c : Addr} {a : Nat} {r s m : Int} (h : H b = some (.dK (bagK c a r s m))) : DGet H b (.str "at") (some (.int a)) := DGet.k (k := .inr "at") h
theorem dg_rest {H : Hp} {b c : Addr} {a : Nat} {r s m : Int} (h : H b = some (.dK (bagK c a r s m))) : DGet H b (.str "rest") (some (.int r)) := DGet.k (k := .inr "rest") h
theorem dg_seed {H : Hp} {b c : Addr} {a : Nat} {r s m : Int} (h : H b = some (.dK (bagK c a r s m))) : DGet H b (.str "seed") (some (.int s)) := DGet.k (k := .inr "seed") h
theorem dg_many {H : Hp} {b c : Addr} {a : Nat} {r s m : Int} (h : H b = some (.dK (bagK c a r s m))) : DGet H b (.str "many") (some (.int m)) := DGet.k (k := .inr "many") h
theorem dp_at {H : Hp} {b c : Addr} {a : Nat} {r s m : Int} (h : H b = some (.dK (bagK c a r s m))) : DPut H b (.str "at") (.int (a + 1)) (upd H b (.dK (bagK c (a + 1) r s m))) := DPut.k (k := .inr "at") h (small1000 (by show 5 ≤ 1000; decide))
theorem dp_rest {H : Hp} {b c : Addr} {a : Nat} {r s m z : Int} (h : H b = some (.dK (bagK c a r s m))) : DPut H b (.str "rest") (.int z) (upd H b (.dK (bagK c a z s m))) := DPut.k (k := .inr "rest") h (small1000 (by show 5 ≤ 1000; decide))
theorem dp_seed {H : Hp} {b c : Addr} {a : Nat} {r s m z : Int} (h : H b = some (.dK (bagK c a r s m))) : DPut H b (.str "seed") (.int z) (upd H b (.dK (bagK c a r z m))) := DPut.k (k := .inr "seed") h (small1000 (by show 5 ≤ 1000; decide))
theorem dp_many {H : Hp} {b c : Addr} {a : Nat} {r s m z : Int} (h : H b = some (.dK (bagK c a r s m))) : DPut H b (.str "many") (.int z) (upd H b (.dK (bagK c a r s z))) := DPut.k (k := .inr "many") h (small1000 (by show 5 ≤ 1000; decide))
/-- nothing but the bag has changed -/
def Only (H H' : Hp) (b : Addr) : Prop := ∀ x, x ≠ b → H' x = H x
theorem Only.refl (H : Hp) (b : Addr) : Only H H b := fun _ _ => rfl
theorem Only.trans {H H1 H2 : Hp} {b : Addr} (a : Only H H1 b) (c : Only H1 H2 b) : Only H H2 b := fun x hx => (c x hx).trans (a x hx)
theorem Only.upd {H : Hp} {b : Addr} {o : HO} : Only H (upd H b o) b := fun x hx => upd_ne hx
def spDraw : Sp := fun vs H Q _ => ∃ (b c : Addr) (m : Nat), vs = [.ref b, .int m] ∧ Bg H b c ∧ m < 1000000 ∧ ∀ (d : Nat) (H' : Hp), (d < m ∨ (d = 0 ∧ m < 2)) → Bg H' b c → Only H H' b → Q (.int d) H'
theorem fmod_nat {x : Int} {m : Nat} (h : 0 < m) : ∃ d : Nat, x.fmod m = d ∧ d < m := by
  have h0 := Int.fmod_nonneg_of_pos x (show (0 : Int) < m by omega)
  have h1 := Int.fmod_lt_of_pos x (show (0 : Int) < m by omega)
  exact ⟨(x.fmod m).toNat, by omega, by omega⟩
section
variable {P : Program} {w : World} {K : PySem.W.Frag} {mg : Str → Option Value} {base : Heap}
theorem ok_draw {f : Addr} {fd : FuncData} (F : FnP K "_law_draw" "_law_draw" s__law_draw f fd) (T : Tx w K mg) : FnOk P w K mg base CX0 1 f fd p__law_draw spDraw := by
  refine F.ok sc__law_draw (fun vs H Q E h => ?_) (fun cdv A outer s H vs Q E hr h => ?_)
  · obtain ⟨b, c, m, rfl, _⟩ := h
    rfl
  · obtain ⟨b, c, m, rfl, hb, hm, k⟩ := h
    have hu := hu_of hr
    have hbc := hb.ne
    obtain ⟨at_, rest, seed, many, ns, h1, h2⟩ := hb
    refine ⟨_, PSs.nox (pss_cons (ps_if (pt_cmpR op_lt (pv 1) pe_int (nomark _)) (pss_one (ps_ret pe_int)) pss_nil)
      (pss_cons (ps_dput hu (pv 0) pe_str (pe_op op_add (pe_dget hu (pv 0) pe_str (fun _ _ => rfl)) pe_int) rfl)
      (C8.pss_cut (ps_if (PW.pt (pw_and (pt_cmpR op_eq (pe_dget hu (pv 0) pe_str (fun _ _ => rfl)) pe_int (nomark _)) (pw_and1 (pt_cmpR op_lt (pe_dget hu (pv 0) pe_str (fun _ _ => rfl)) (pe_callB call_len_seq (by rfl) T.b_len PySem.boot_len (pa_cons (pe_dget hu (pv 0) pe_str (fun _ _ => rfl)) pa_nil)) (nomark _))))) (pss_cons (ps_set (i := 3) sc__law_draw.nd rfl (.inl rfl) (pe_ix ix_list (pe_dget hu (pv 0) pe_str (fun _ _ => rfl)) (pe_dget hu (pv 0) pe_str (fun _ _ => rfl)) (fun _ _ => rfl)))
      (pss_cons (ps_dput hu (pv 0) pe_str (pe_op op_add (pe_dget hu (pv 0) pe_str (fun _ _ => rfl)) pe_int) rfl)
      (pss_one (ps_if (pt_cmpR op_ge (pv 3) (pe_op op_pow pe_int pe_int) (nomark _)) (pss_one (ps_dput hu (pv 0) pe_str (pv 3) rfl)) (pss_one (ps_dput hu (pv 0) pe_str (pe_op op_modN (pe_callTy call_int1 (by rfl) T.b_int (by decide +kernel) (pa_cons (pe_op op_add (pe_op op_add (pe_op op_mul (pe_dget hu (pv 0) pe_str (fun _ _ => rfl)) pe_int) (pe_op op_modN (pe_callTy call_int1 (by rfl) T.b_int (by decide +kernel) (pa_cons (pv 3) pa_nil)) pe_int)) pe_int) pa_nil)) pe_int) rfl)))))) pss_nil)
      (C8.pss_cut (ps_if (pt_cmpR op_gt (pe_dget hu (pv 0) pe_str (fun _ _ => rfl)) pe_int (nomark _)) (pss_cons (ps_set (i := 4) sc__law_draw.nd rfl (.inl rfl) (pe_op op_modN (pe_callTy call_int1 (by rfl) T.b_int (by decide +kernel) (pa_cons (pe_dget hu (pv 0) pe_str (fun _ _ => rfl)) pa_nil)) (pv 1)))
      (pss_cons (ps_dput hu (pv 0) pe_str (pe_op op_fdivN (pe_dget hu (pv 0) pe_str (fun _ _ => rfl)) (pv 1)) rfl)
      (pss_one (ps_ret (pv 4))))) pss_nil)
      (pss_cons (ps_set (i := 2) sc__law_draw.nd rfl (.inl rfl) (pe_op op_modN (pe_callTy call_int1 (by rfl) T.b_int (by decide +kernel) (pa_cons (pe_op op_mul (pe_op op_add (pe_op op_add (pe_dget hu (pv 0) pe_str (fun _ _ => rfl)) (pe_op op_mul pe_int (pe_dget hu (pv 0) pe_str (fun _ _ => rfl)))) pe_int) pe_int) pa_nil)) pe_int))
      (pss_cons (ps_set (i := 2) sc__law_draw.nd rfl (.inl rfl) (pe_op op_modN (pe_callTy call_int1 (by rfl) T.b_int (by decide +kernel) (pa_cons (pe_op op_mul (pv 2) (pe_op op_add (pe_op op_fdivN (pv 2) pe_int) pe_int)) pa_nil)) pe_int))
      (pss_one (ps_ret (pe_op op_modN (pe_op op_fdivN (pe_op op_modN (pe_callTy call_int1 (by rfl) T.b_int (by decide +kernel) (pa_cons (pe_op op_mul (pv 2) (pe_op op_add (pe_op op_fdivN (pv 2) pe_int) pe_int)) pa_nil)) pe_int) pe_int) (pv 1)))))))))), ?_⟩
    refine ⟨_, rfl, _, _, rfl, rfl, _, rfl, ?_⟩
    refine ite2 (fun q => ?_) fun q => ?_
    · have q' : (m : Int) < 2 := of_decide_eq_true q
      exact k 0 H (.inr ⟨rfl, by omega⟩) ⟨at_, rest, seed, many, ns, h1, h2⟩ (Only.refl H b)
    · have q' : ¬ (m : Int) < 2 := fun z => q (decide_eq_true z)
      have hm0 : 0 < m := by omega
      refine ⟨_, rfl, b, _, rfl, dg_many h1, _, _, rfl, rfl, _, rfl, b, _, rfl, dp_many h1, ?_⟩
      have g1 : upd H b (.dK (bagK c at_ rest seed (many + 1))) b = some (.dK (bagK c at_ rest seed (many + 1))) := upd_same
      have g2 : upd H b (.dK (bagK c at_ rest seed (many + 1))) c = some (.lst (ns.map V.int)) := by rw [upd_ne hbc.symm]; exact h2
      have g3 : Only H (upd H b (.dK (bagK c at_ rest seed (many + 1)))) b := Only.upd
      generalize upd H b (.dK (bagK c at_ rest seed (many + 1))) = H1 at g1 g2 g3
      refine ⟨fun σ' H' => ∃ (a' : Nat) (r' s' m' : Int) (v : Option V), σ' = [some (.ref b), some (.int m), none, v, none] ∧ H' b = some (.dK (bagK c a' r' s' m')) ∧ H' c = some (.lst (ns.map V.int)) ∧ Only H H' b, ?_, ?_⟩
      · refine ⟨_, rfl, b, _, rfl, dg_rest g1, rfl, _, rfl, ?_⟩
        refine ite2 (fun e => ?_) fun e => ?_
        · refine ⟨_, rfl, b, _, rfl, dg_at g1, _, rfl, b, _, rfl, dg_cells g1, c, _, rfl, .inl (SqL.of g2), _, _, rfl, rfl, _, rfl, ?_⟩
          refine ite2 (fun e2 => ?_) fun e2 => ?_
          · have e3 : at_ < ns.length := by
              have := of_decide_eq_true e2
              rw [List.length_map] at this
              omega
            refine ⟨_, rfl, b, _, rfl, dg_cells g1, _, rfl, b, _, rfl, dg_at g1, c, _, _, .int ns[at_], rfl, rfl, SqL.of g2, atI_nat (by simp [e3]), ?_⟩
            refine ⟨_, rfl, b, _, rfl, dg_at g1, _, _, rfl, rfl, _, rfl, b, _, rfl, dp_at g1, ?_⟩
            have i1 : upd H1 b (.dK (bagK c (at_ + 1) rest seed (many + 1))) b = some (.dK (bagK c (at_ + 1) rest seed (many + 1))) := upd_same
            have i2 : upd H1 b (.dK (bagK c (at_ + 1) rest seed (many + 1))) c = some (.lst (ns.map V.int)) := by rw [upd_ne hbc.symm]; exact g2
            have i3 : Only H (upd H1 b (.dK (bagK c (at_ + 1) rest seed (many + 1)))) b := g3.trans Only.upd
            generalize upd H1 b (.dK (bagK c (at_ + 1) rest seed (many + 1))) = H2 at i1 i2 i3
            refine ⟨_, rfl, _, _, rfl, rfl, ⟨by decide, by decide, by decide⟩, _, _, rfl, rfl, _, rfl, ?_⟩
            refine ite2 (fun _ => ?_) fun _ => ?_
            · exact ⟨_, rfl, _, rfl, b, _, rfl, dp_rest i1, _, _, _, _, _, rfl, upd_same, by rw [upd_ne hbc.symm]; exact i2, i3.trans Only.upd⟩
            · refine ⟨_, rfl, b, _, rfl, dg_seed i1, _, _, rfl, rfl, .inr ⟨by decide, by decide⟩, _, rfl, .inl ⟨_, rfl, _, _, rfl, rfl, (by show (2147483399 : Int) ≠ 0; decide), _, _, rfl, rfl, _, _, rfl, rfl, .inl ⟨_, rfl, _, _, rfl, rfl, (by show (2147483647 : Int) ≠ 0; decide), ?_⟩⟩⟩
              exact ⟨_, rfl, b, _, rfl, dp_seed i1, _, _, _, _, _, rfl, upd_same, by rw [upd_ne hbc.symm]; exact i2, i3.trans Only.upd⟩
          · exact ⟨_, _, _, _, _, rfl, g1, g2, g3⟩
        · exact ⟨_, _, _, _, _, rfl, g1, g2, g3⟩
      · rintro σ' H2 ⟨a', r', s', m', v, rfl, g1, g2, g3⟩
        refine ⟨fun σ' H3 => H3 = H2 ∧ σ' = [some (.ref b), some (.int m), none, v, none], ?_, ?_⟩
        · refine ⟨_, rfl, b, _, rfl, dg_rest g1, _, _, rfl, rfl, _, rfl, ?_⟩
          refine ite2 (fun e => ?_) fun e => ⟨rfl, rfl⟩
          refine ⟨_, rfl, b, _, rfl, dg_rest g1, .inl ⟨_, rfl, _, rfl, _, _, rfl, rfl, by omega, ?_⟩⟩
          refine ⟨_, rfl, b, _, rfl, dg_rest g1, _, rfl, _, _, rfl, rfl, ⟨by omega, by omega⟩, _, rfl, b, _, rfl, dp_rest g1, _, rfl, ?_⟩
          obtain ⟨d, hd, hdm⟩ := fmod_nat (x := r') hm0
          show Q (V.int (r'.fmod (m : Nat))) _
          rw [hd]
          exact k d _ (.inl hdm) ⟨_, _, _, _, _, upd_same, by rw [upd_ne hbc.symm]; exact g2⟩ (g3.trans Only.upd)
        · rintro σ' H3 ⟨rfl, rfl⟩
          refine ⟨_, rfl, b, _, rfl, dg_seed g1, _, rfl, b, _, rfl, dg_many g1, _, _, rfl, rfl, .inl ⟨by decide, by decide⟩, _, _, rfl, rfl, _, _, rfl, rfl, _, _, rfl, rfl, .inr ⟨by decide, by decide⟩, .inl ⟨_, rfl, _, _, rfl, rfl, (by show (2147483647 : Int) ≠ 0; decide), ?_⟩⟩
          dsimp only
          generalize hx : ((s' + 7919 * m' + 1) * 48271).fmod 2147483647 = x1
          have x1a : 0 ≤ x1 := by rw [← hx]; exact Int.fmod_nonneg_of_pos _ (by decide)
          have x1b : x1 < 2147483647 := by rw [← hx]; exact Int.fmod_lt_of_pos _ (by decide)
          refine ⟨_, rfl, _, rfl, _, _, rfl, rfl, ⟨by decide, by decide⟩, _, _, rfl, rfl, _, _, rfl, rfl, .inl ⟨by omega, by omega⟩, .inl ⟨_, rfl, _, _, rfl, rfl, (by show (2147483647 : Int) ≠ 0; decide), ?_⟩⟩
          dsimp only
          generalize hy : (x1 * (x1.fdiv 1009 + 69621)).fmod 2147483647 = x2
          have x2a : 0 ≤ x2 := by rw [← hy]; exact Int.fmod_nonneg_of_pos _ (by decide)
          have x2b : x2 < 2147483647 := by rw [← hy]; exact Int.fmod_lt_of_pos _ (by decide)
          refine ⟨_, rfl, _, rfl, _, _, rfl, rfl, ⟨by decide, by decide⟩, _, _, rfl, rfl, _, _, rfl, rfl, .inl ⟨by omega, by omega⟩, .inl ⟨_, rfl, _, _, rfl, rfl, (by show (2147483399 : Int) ≠ 0; decide), ?_⟩⟩
          refine ⟨_, _, rfl, rfl, ⟨by decide, by decide⟩, _, rfl, _, _, rfl, rfl, by omega, ?_⟩
          obtain ⟨d, hd, hdm⟩ := fmod_nat (x := ((x2 * (x2.fdiv 2003 + 40692)).fmod 2147483399).fdiv 7) hm0
          show Q (V.int ((((x2 * (x2.fdiv 2003 + 40692)).fmod 2147483399).fdiv 7).fmod (m : Nat))) _
          rw [hd]
          exact k d _ (.inl hdm) ⟨_, _, _, _, _, g1, g2⟩ g3
end
end K13

set_option Elab.async false
set_option maxRecDepth 100000
set_option maxHeartbeats 4000000
set_option linter.all false
namespace K13
open PySem PySem.Spec PyProof.Rows L2
/-- all but the bag stays -/
def Bs (H H' : Hp) (b : Addr) : Prop := ∀ x o, H x = some o → x ≠ b → H' x = some o
theorem Bs.refl (H : Hp) (b : Addr) : Bs H H b := fun _ _ h _ => h
theorem Bs.trans {H H1 H2 : Hp} {b : Addr} (a : Bs H H1 b) (c : Bs H1 H2 b) : Bs H H2 b := fun x o h n => c x o (a x o h n) n
theorem Only.bs {H H' : Hp} {b : Addr} (h : Only H H' b) : Bs H H' b := fun x o e n => by rw [h x n]; exact e
theorem Same.bs {H H' : Hp} {b : Addr} (h : Same H H') : Bs H H' b := fun x o e _ => h x o e
theorem Bg.same {H H' : Hp} {b c : Addr} (e : Same H H') (h : Bg H b c) : Bg H' b c := by
  obtain ⟨a, r, s, m, ns, h1, h2⟩ := h
  exact ⟨a, r, s, m, ns, e _ _ h1, e _ _ h2⟩
theorem Bg.beside {H : Hp} {b c p : Addr} {o : HO} (h : Bg H b c) (n1 : p ≠ b) (n2 : p ≠ c) : Bg (upd H p o) b c := by
  obtain ⟨a, r, s, m, ns, h1, h2⟩ := h
  exact ⟨a, r, s, m, ns, by rw [upd_ne n1.symm]; exact h1, by rw [upd_ne n2.symm]; exact h2⟩
theorem Bg.tr {H : Hp} {b c p : Addr} (h : Bg H b c) (np : H p = none) : p ≠ b ∧ p ≠ c := by
  obtain ⟨a, r, s, m, ns, h1, h2⟩ := h
  exact ⟨(ne_of_none h1 np).symm, (ne_of_none h2 np).symm⟩
theorem bsL {K : PySem.W.Frag} {H H' : Hp} {b c l : Addr} {xs : List V} (e : Bs H H' b) (B : Bg H b c) (h : SqL K H l xs) : SqL K H' l xs := by
  obtain ⟨_, _, _, _, _, h1, _⟩ := B
  rcases h with (h | ⟨o, h⟩) | h
  · exact .inl (.inl (e _ _ h (ne_of h h1 (by intro z; cases z))))
  · exact .inl (.inr ⟨o, e _ _ h (ne_of h h1 (by intro z; cases z))⟩)
  · exact .inr h
theorem bsT {K : PySem.W.Frag} {H H' : Hp} {b c l : Addr} {xs : List V} (e : Bs H H' b) (B : Bg H b c) (h : SqT K H l xs) : SqT K H' l xs := by
  obtain ⟨_, _, _, _, _, h1, _⟩ := B
  rcases h with (h | ⟨o, h⟩) | h
  · exact .inl (.inl (e _ _ h (ne_of h h1 (by intro z; cases z))))
  · exact .inl (.inr ⟨o, e _ _ h (ne_of h h1 (by intro z; cases z))⟩)
  · exact .inr h
def spBag (K : PySem.W.Frag) : Sp := fun vs H Q _ => ∃ (a : Addr) (ns : List Int), vs = [.ref a] ∧ SqL K H a (ns.map V.int) ∧ ns.length ≤ 63 ∧ ∀ (b c : Addr) (H' : Hp), Same H H' → H b = none → H c = none → Bg H' b c → Q (.ref b) H'
def spOne (K : PySem.W.Frag) : Sp := fun vs H Q _ => ∃ (b c l : Addr) (xs : List V), vs = [.ref b, .ref l] ∧ Bg H b c ∧ SqL K H l xs ∧ xs ≠ [] ∧ xs.length < 1000000 ∧ ∀ (v : V) (H' : Hp), v ∈ xs → Bg H' b c → Only H H' b → Q v H'
def spWords (K : PySem.W.Frag) : Sp := fun vs H Q _ => ∃ (b c tk : Addr) (m : Nat), vs = [.ref b, .int 1, .int m, .ref tk] ∧ Bg H b c ∧ 1 ≤ m ∧ m ≤ 8 ∧ SqL K H tk [] ∧ ∀ (z : Str) (p : Addr) (H' : Hp), isWord z = true → Bg H' b c → Bs H H' b → H p = none → H' p = some (.lst [.str z]) → Q (.ref p) H'
def letters : Str := "abcdefghijklmnopqrstuvwxyz"
theorem letters_at (d : Nat) (h : d < 26) : ∃ c, letters.cps.toList[d]? = some c ∧ lowC c = true := by
  have key : (List.range 26).all (fun d => match letters.cps.toList[d]? with | some c => lowC c | none => false) = true := by decide +kernel
  have := List.all_eq_true.mp key d (List.mem_range.mpr h)
  cases e : letters.cps.toList[d]? with
  | none => rw [e] at this; cases this
  | some c => rw [e] at this; exact ⟨c, rfl, this⟩
theorem joinL_one : ∀ cs : List Nat, TL.joinL [] (cs.map fun c => [c]) = cs
  | [] => rfl
  | [_] => rfl
  | c :: d :: r => by
    have := joinL_one (d :: r)
    show [c] ++ ([] ++ TL.joinL [] ((d :: r).map fun c => [c])) = c :: d :: r
    rw [this]
    rfl
theorem word_of {cs : List Nat} (h0 : 1 ≤ cs.length) (h1 : cs.length ≤ 8) (hc : cs.all lowC = true) : isWord (SX.S cs) = true := by
  unfold isWord
  have e : (SX.S cs).length = cs.length := SX.S_len cs
  have e2 : (SX.S cs).cps.toList = cs := rfl
  rw [e, e2, decide_eq_true (by omega), decide_eq_true (by omega)]
  simpa [List.all_map] using hc
section
variable {P : Program} {w : World} {K : PySem.W.Frag} {mg : Str → Option Value} {base : Heap}
theorem ok_bag {f : Addr} {fd : FuncData} (F : FnP K "_law_bag" "_law_bag" s__law_bag f fd) (T : Tx w K mg) : FnOk P w K mg base CX0 1 f fd p__law_bag (spBag K) := by
  refine F.ok sc__law_bag (fun vs H Q E h => ?_) (fun cdv A outer s H vs Q E hr h => ?_)
  · obtain ⟨a, ns, rfl, _⟩ := h
    rfl
  · obtain ⟨a, ns, rfl, ha, hl, k⟩ := h
    refine ⟨_, PSs.nox (pss_one (ps_ret (pe_disp (pps_cons pe_str (pe_lc (own := [("_law_cell", 1)]) (g := (gName 1)) (by rfl) sc__law_bag.nd (pi_list (pe_slice sl_list (pv 0) po_none (po_some pe_int))) (blkOk_by (N := n__law_bag) (sc := defScope s__law_bag) (by decide +kernel)) (fun _ _ _ _ _ => (pg_name (i := 1) sc__law_bag.nd rfl (.inl rfl))) (fun _ _ _ _ _ => pts_nil) (fun _ _ _ _ _ => (pe_callTy call_int1 (by rfl) T.b_int (by decide +kernel) (pa_cons (pv 1) pa_nil)))) (pps_cons pe_str pe_int (pps_cons pe_str pe_int (pps_cons pe_str pe_int (pps_cons pe_str pe_int pps_nil))))) (by rfl) (by rfl) (fun z => by cases z) (by decide)))), ?_⟩
    intro p np
    have S1 : Same H (upd H p (.dK [])) := Same.new np
    refine ⟨_, rfl, 63, rfl, a, _, rfl, S1.seq ha, fun q nq => ?_⟩
    have ec : cutV (ns.map V.int) none (some 63) = ns.map V.int := by
      unfold cutV
      simp only [HT.sIx, List.drop_zero, Nat.sub_zero]
      exact List.take_of_length_le (by simp; omega)
    rw [ec]
    have S2 := S1.trans (Same.new (o := .lst (ns.map V.int)) nq)
    have hq : upd (upd H p (.dK [])) q (.lst (ns.map V.int)) q = some (.lst (ns.map V.int)) := upd_same
    have hp : upd (upd H p (.dK [])) q (.lst (ns.map V.int)) p = some (.dK []) := by rw [upd_ne (ne_of_none upd_same nq)]; exact upd_same
    generalize upd (upd H p (.dK [])) q (.lst (ns.map V.int)) = H2 at hq hp S2
    refine ⟨q, rfl, ⟨_, SqL.of hq⟩, fun D nD => ?_⟩
    refine lc_list (K := K) (a := q) (xs := ns.map V.int) (fun i H3 => H3 = upd H2 D (.lst ((ns.take i).map V.int))) rfl (fun i H3 _ e => ?_) (fun i x H3 hi e => ?_) (fun H3 e => ?_)
    · subst e
      exact SqL.of (by rw [upd_ne (ne_of_none hq nD)]; exact hq)
    · subst e
      obtain ⟨n, hn, rfl⟩ : ∃ n, ns[i]? = some n ∧ x = V.int n := by
        rw [List.getElem?_map] at hi
        cases e : ns[i]? with
        | none => rw [e] at hi; cases hi
        | some n => rw [e] at hi; exact ⟨n, rfl, (Option.some.inj hi).symm⟩
      refine ⟨rfl, ?_⟩
      refine tYes_ ?_
      refine iteT ?_
      refine ⟨_, rfl, .inl ⟨_, rfl, _, upd_same, small1000 (by rw [List.length_map, List.length_take]; omega), ?_⟩⟩
      rw [upd_upd, take_more hn, List.map_append]
      rfl
    · subst e
      rw [List.length_map, List.take_length]
      have pD : p ≠ D := ne_of_none hp nD
      refine ⟨by rw [upd_ne pD]; exact hp, bagK D 0 0 1 0, rfl, by show 5 ≤ 15; decide, ?_⟩
      refine k p D _ (fun b o hb => ?_) np (S2.free nD) ⟨0, 0, 1, 0, ns, ?_, ?_⟩
      · rw [upd_ne (ne_of_none hb np), upd_ne (ne_of_none (S2 _ _ hb) nD)]
        exact S2 _ _ hb
      · rw [upd_same]
        rfl
      · rw [upd_ne pD.symm, upd_same]
theorem ok_one {f : Addr} {fd : FuncData} (F : FnP K "_law_one" "_law_one" s__law_one f fd) (T : Tx w K mg) (G__law_draw : Def P w K mg base CX0 1 "_law_draw" p__law_draw spDraw) : FnOk P w K mg base CX0 2 f fd p__law_one (spOne K) := by
  refine F.ok sc__law_one (fun vs H Q E h => ?_) (fun cdv A outer s H vs Q E hr h => ?_)
  · obtain ⟨b, c, l, xs, rfl, _⟩ := h
    rfl
  · obtain ⟨b, c, l, xs, rfl, hb, hl, ne, few, k⟩ := h
    refine ⟨_, PSs.nox (pss_one (ps_ret (pe_ix ix_list (pv 1) (pe_fn G__law_draw (hr.mono (by decide)) (by rfl) pass0 (pa_cons (pv 0) (pa_cons (pe_callB call_len_seq (by rfl) T.b_len PySem.boot_len (pa_cons (pv 1) pa_nil)) pa_nil))) (fun _ _ => rfl)))), ?_⟩
    have h0 : 0 < xs.length := List.length_pos_iff.mpr ne
    refine ⟨_, rfl, _, rfl, _, rfl, l, _, rfl, .inl hl, b, c, xs.length, rfl, hb, few, fun d H' hd hb' ho => ?_⟩
    have hd' : d < xs.length := by omega
    exact ⟨l, xs, d, xs[d], rfl, rfl, bsL ho.bs hb hl, atI_nat (by simp [hd']), k _ _ (List.getElem_mem hd') hb' ho⟩
theorem ok_words {f : Addr} {fd : FuncData} (F : FnP K "_law_words" "_law_words" s__law_words f fd) (T : Tx w K mg) (G__law_draw : Def P w K mg base CX0 1 "_law_draw" p__law_draw spDraw) : FnOk P w K mg base CX0 2 f fd p__law_words (spWords K) := by
  refine F.ok sc__law_words (fun vs H Q E h => ?_) (fun cdv A outer s H vs Q E hr h => ?_)
  · obtain ⟨b, c, tk, m, rfl, _⟩ := h
    rfl
  · obtain ⟨b, c, tk, m, rfl, hb, m1, m8, htk, k⟩ := h
    refine ⟨_, PSs.nox (pss_cons (ps_set (i := 4) sc__law_words.nd rfl (.inr rfl) pe_str)
      (pss_cons (ps_set (i := 5) sc__law_words.nd rfl (.inl rfl) (pe_lst pa_nil))
      (pss_cons (ps_for PassesOwn.never rfl (pi_range1 (by rfl) T.b_range (pa_cons (pv 1) pa_nil)) (pg_name (i := 6) sc__law_words.nd rfl (.inl rfl)) (pss_cons (ps_set (i := 7) sc__law_words.nd rfl (.inl rfl) (pe_op op_add pe_int (pe_fn G__law_draw (hr.mono (by decide)) (by rfl) pass0 (pa_cons (pv 0) (pa_cons (pv 2) pa_nil)))))
      (pss_cons (ps_set (i := 8) sc__law_words.nd rfl (.inl rfl) (pe_join pe_str (pe_lc (own := [("_law_place", 11)]) (g := (gName 11)) (by rfl) sc__law_words.nd (pi_range1 (by rfl) T.b_range (pa_cons (pv 7) pa_nil)) (blkOk_by (N := n__law_words) (sc := defScope s__law_words) (by decide +kernel)) (fun _ _ _ _ _ => (pg_name (i := 11) sc__law_words.nd rfl (.inl rfl))) (fun _ _ _ _ _ => pts_nil) (fun _ _ _ _ _ => (pe_ix ix_str (pv 4) (pe_fn G__law_draw (hr.mono (by decide)) (by rfl) pass0 (pa_cons (pv 0) (pa_cons pe_int pa_nil))) (fun _ _ => rfl))))))
      (pss_cons (ps_for PassesOwn.never rfl (pi_range1 (by rfl) T.b_range (pa_cons pe_int pa_nil)) (pg_name (i := 9) sc__law_words.nd rfl (.inl rfl)) (pss_one (ps_if (PW.pt (pw_or (pt_cmpR op_in_seq (pv 8) (pv 3) (by rfl)) (pw_or1 (pt_cmpR op_in_seq (pv 8) (pv 5) (by rfl))))) (pss_cons ps_never
      (pss_one ps_never)) pss_nil)))
      (pss_one (ps_expr (pe_bm PySem.F.plainAttrs_list PySem.F.slot_list_append PySem.F.type_list_append mt_append (pv 5) (pa_cons (pv 8) pa_nil))))))))
      (pss_one (ps_ret (pv 5)))))), ?_⟩
    refine ⟨by show 0 ≤ sizeLine; decide, fun p np => ?_⟩
    obtain ⟨pb, pc⟩ := hb.tr np
    have S1 : Same H (upd H p (.lst [])) := Same.new np
    have hb1 := hb.same S1
    have hp1 : upd H p (.lst []) p = some (.lst []) := upd_same
    generalize upd H p (.lst []) = H1 at S1 hb1 hp1
    refine ⟨_, rfl, 1, rfl, by decide, by decide, ?_⟩
    refine for_range (lo := 0) (n := 1) (fun i σ H' => (i = 0 → H' = H1 ∧ ∃ v6 v7 v8 v9 v10 v11, σ = [some (.ref b), some (.int 1), some (.int m), some (.ref tk), some (.str letters), some (.ref p), v6, v7, v8, v9, v10, v11]) ∧
      (i = 1 → ∃ z v6 v7 v8 v9 v10 v11, σ = [some (.ref b), some (.int 1), some (.int m), some (.ref tk), some (.str letters), some (.ref p), v6, v7, v8, v9, v10, v11] ∧ isWord z = true ∧ Bg H' b c ∧ Bs H H' b ∧ H' p = some (.lst [.str z])))
      ⟨fun _ => ⟨rfl, _, _, _, _, _, _, rfl⟩, fun z => by cases z⟩ (fun i σ H' hi q => ?_) (fun σ H' q => ?_)
    · have i0 : i = 0 := by omega
      subst i0
      obtain ⟨rfl, v6, v7, v8, v9, v10, v11, rfl⟩ := q.1 rfl
      refine ⟨_, rfl, _, rfl, b, c, m, rfl, hb1, by omega, fun d H2 hd hb2 ho2 => ⟨_, _, rfl, rfl, ?_⟩⟩
      have bs2 : Bs H H2 b := (Same.bs S1).trans ho2.bs
      have hp2 : H2 p = some (.lst []) := by rw [ho2 p pb]; exact hp1
      refine ⟨⟨_, rfl⟩, ?_⟩
      have sz : 1 ≤ (1 + (d : Int)).toNat ∧ (1 + (d : Int)).toNat ≤ 8 := by omega
      refine ⟨_, rfl, 1 + (d : Int), rfl, by omega, by omega, fun D nD => ?_⟩
      obtain ⟨Db, Dc⟩ := hb2.tr nD
      refine lc_range (lo := 0) (n := (1 + (d : Int)).toNat) (fun i H3 => ∃ cs : List Nat, cs.length = i ∧ cs.all lowC = true ∧ H3 D = some (.lst (cs.map fun c => V.str ⟨#[c]⟩)) ∧ Bg H3 b c ∧ Bs H2 H3 b)
        ⟨[], rfl, rfl, upd_same, hb2.beside Db Dc, fun x o hx _ => by rw [upd_ne (ne_of_none hx nD)]; exact hx⟩ (fun i H3 hi q => ?_) (fun H3 q => ?_)
      · obtain ⟨cs, hcl, hca, hD, hb3, bs3⟩ := q
        refine ⟨rfl, ?_⟩
        refine tYes_ ?_
        refine iteT ?_
        refine ⟨_, rfl, _, rfl, b, c, 26, rfl, hb3, by decide, fun d2 H4 hd2 hb4 ho4 => ?_⟩
        have hd3 : d2 < 26 := by omega
        obtain ⟨ch, hch, hlow⟩ := letters_at d2 hd3
        have hD4 : H4 D = some (.lst (cs.map fun c => V.str ⟨#[c]⟩)) := by rw [ho4 D Db]; exact hD
        refine ⟨letters, d2, ch, rfl, rfl, by decide +kernel, atI_nat hch, _, hD4, small1000 (by rw [List.length_map]; omega), cs ++ [ch], by simp [hcl], by simp [hca, hlow], ?_, hb4.beside Db Dc, fun x o hx hxb => ?_⟩
        · rw [upd_same, List.map_append]
          rfl
        · rw [upd_ne (ne_of_none hx nD)]
          exact ho4.bs x o (bs3 x o hx hxb) hxb
      · obtain ⟨cs, hcl, hca, hD, hb3, bs3⟩ := q
        have e1 : (cs.map fun c => V.str ⟨#[c]⟩) = (cs.map fun c => (⟨#[c]⟩ : Str)).map V.str := by rw [List.map_map]; rfl
        have e2 : (cs.map fun c => (⟨#[c]⟩ : Str)) = (cs.map fun c => [c]).map SX.S := by rw [List.map_map]; rfl
        refine ⟨"", D, cs.map fun c => (⟨#[c]⟩ : Str), rfl, rfl, .inl (SqL.of (by rw [← e1]; exact hD)), ?_, ?_⟩
        · have : ((cs.map fun c => (⟨#[c]⟩ : Str)).map (·.length)).sum ≤ cs.length * 1 := by
            clear hcl hca hD e1 e2
            induction cs with
            | nil => decide
            | cons a l ih =>
              simp only [List.map_cons, List.sum_cons, List.length_cons]
              have : (⟨#[a]⟩ : Str).length = 1 := rfl
              rw [this]
              omega
          have l0 : ("" : Str).length = 0 := by decide +kernel
          rw [l0]
          omega
        · have ez : Txt.join "" (cs.map fun c => (⟨#[c]⟩ : Str)) = SX.S cs := by
            have := SX.join_S [] (cs.map fun c => [c])
            rw [joinL_one] at this
            rw [e2]
            exact this
          have hw : isWord (SX.S cs) = true := word_of (by omega) (by omega) hca
          rw [ez]
          have hp3 : H3 p = some (.lst []) := bs3 p _ hp2 pb
          have htk3 : SqL K H3 tk [] := bsL (bs2.trans bs3) hb htk
          refine ⟨26, rfl, by decide, by decide, ?_⟩
          refine for_range (lo := 0) (n := 26) (fun i σ H' => H' = H3 ∧ ∃ v9, σ = [some (.ref b), some (.int 1), some (.int m), some (.ref tk), some (.str letters), some (.ref p), some (.int 0), some (.int (1 + (d : Int))), some (.str (SX.S cs)), v9, v10, v11])
            ⟨rfl, _, rfl⟩ (fun i σ H' hi q => ?_) (fun σ H' q => ?_)
          · obtain ⟨rfl, v9, rfl⟩ := q
            refine ⟨_, rfl, _, rfl, tk, [], rfl, .inl htk3, rfl, rfl, _, rfl, ?_⟩
            refine iteF ⟨_, rfl, _, rfl, p, [], rfl, .inl (SqL.of hp3), rfl, rfl, _, rfl, ?_⟩
            refine iteF ⟨rfl, _, rfl⟩
          · obtain ⟨rfl, v9, rfl⟩ := q
            refine ⟨_, rfl, Or.inl ⟨rfl, _, SqL.of hp3⟩, _, rfl, p, [], _, rfl, rfl, hp3, by rw [sizeLine_eq]; decide, (fun z => by cases z), fun _ => ?_⟩
            refine ⟨SX.S cs, _, _, _, _, _, _, rfl, hw, hb3.beside pb pc, fun x o hx hxb => ?_, ?_⟩
            · rw [upd_ne (ne_of_none hx np)]
              exact bs3 x o (bs2 x o hx hxb) hxb
            · exact upd_same
    · obtain ⟨z, v6, v7, v8, v9, v10, v11, rfl, hz, hb2, bs2, hp2⟩ := q.2 rfl
      refine ⟨_, rfl, ?_⟩
      exact k z p H' hz hb2 bs2 np hp2
end
end K13

set_option Elab.async false
set_option maxRecDepth 100000
set_option maxHeartbeats 4000000
set_option linter.all false
namespace K13
open PySem PySem.Spec PyProof.Rows L2
/-- the same data, at most n deep -/
inductive SameV (K : PySem.W.Frag) (H : Hp) : Nat → V → V → Prop where
  | int {n : Nat} (i : Int) : SameV K H (n + 1) (.int i) (.int i)
  | str {n : Nat} (z : Str) : SameV K H (n + 1) (.str z) (.str z)
  | lst {n : Nat} {a b : Addr} {xs ys : List V} (ha : SqL K H a xs) (hb : SqL K H b ys) (few : xs.length ≤ 1000) (el : xs.length = ys.length) (h : ∀ (i : Nat) (x y : V), xs[i]? = some x → ys[i]? = some y → SameV K H n x y) : SameV K H (n + 1) (.ref a) (.ref b)
  | tup {n : Nat} {a b : Addr} {xs ys : List V} (ha : SqT K H a xs) (hb : SqT K H b ys) (few : xs.length ≤ 1000) (el : xs.length = ys.length) (h : ∀ (i : Nat) (x y : V), xs[i]? = some x → ys[i]? = some y → SameV K H n x y) : SameV K H (n + 1) (.ref a) (.ref b)
theorem SameV.same {K : PySem.W.Frag} {H H' : Hp} (e : Same H H') {n : Nat} {v w : V} (h : SameV K H n v w) : SameV K H' n v w := by
  induction h with
  | int i => exact .int i
  | str z => exact .str z
  | lst ha hb few el _ ih => exact .lst (e.seq ha) (e.seq hb) few el ih
  | tup ha hb few el _ ih => exact .tup (sameT e ha) (sameT e hb) few el ih
def spSame (K : PySem.W.Frag) (n : Nat) : Sp := fun vs H Q _ => ∃ v w, vs = [v, w] ∧ SameV K H n v w ∧ ∀ H', Same H H' → Q (.bl true) H'
theorem kitA {K : PySem.W.Frag} {t a b : Value} {x y : Bool} (h1 : PySem.W.kitOne K t a = some x) (h2 : PySem.W.kitOne K t b = some y) : PySem.W.kitAny K t [a, b] = some (x || y) := by
  simp only [PySem.W.kitAny, h1, h2]
  cases x <;> cases y <;> rfl
section
variable {P : Program} {w : World} {K : PySem.W.Frag} {mg : Str → Option Value} {base : Heap}
theorem ok_same {n : Nat} {f : Addr} {fd : FuncData} (F : FnP K "_law_same" "_law_same" s__law_same f fd) (T : Tx w K mg) (G__law_same : Def P w K mg base CX0 n "_law_same" p__law_same (spSame K n)) : FnOk P w K mg base CX0 (n + 1) f fd p__law_same (spSame K (n + 1)) := by
  refine F.ok sc__law_same (fun vs H Q E h => ?_) (fun cdv A outer s H vs Q E hr h => ?_)
  · obtain ⟨v, w, rfl, _⟩ := h
    rfl
  · obtain ⟨v, w, rfl, hs, k⟩ := h
    refine ⟨_, PSs.nox (pss_cons (ps_if (pt_val (pe_callB call_isiT (by rfl) T.b_isinstance (by decide +kernel) (pa_cons (pv 1) (pa_cons (pe_tup (pa_cons (pe_bltn (v := .ty "tuple") (u := .type "tuple") (by rfl) T.b_tuple (by decide +kernel) rfl) (pa_cons (pe_bltn (v := .ty "list") (u := .type "list") (by rfl) T.b_list (by decide +kernel) rfl) pa_nil))) pa_nil)))) (pss_cons (ps_if (PW.pt (pw_or (pt_not (pt_val (pe_callB call_isiT (by rfl) T.b_isinstance (by decide +kernel) (pa_cons (pv 0) (pa_cons (pe_tup (pa_cons (pe_bltn (v := .ty "tuple") (u := .type "tuple") (by rfl) T.b_tuple (by decide +kernel) rfl) (pa_cons (pe_bltn (v := .ty "list") (u := .type "list") (by rfl) T.b_list (by decide +kernel) rfl) pa_nil))) pa_nil))))) (pw_or1 (pt_cmpR op_ne (pe_callB call_len_seq (by rfl) T.b_len PySem.boot_len (pa_cons (pv 0) pa_nil)) (pe_callB call_len_seq (by rfl) T.b_len PySem.boot_len (pa_cons (pv 1) pa_nil)) (nomark _))))) (pss_one (ps_ret pe_bl)) pss_nil)
      (pss_cons (ps_if (pt_cmpR op_ne (pe_callB call_isi (by rfl) T.b_isinstance (by decide +kernel) (pa_cons (pv 0) (pa_cons (pe_bltn (v := .ty "tuple") (u := .type "tuple") (by rfl) T.b_tuple (by decide +kernel) rfl) pa_nil))) (pe_callB call_isi (by rfl) T.b_isinstance (by decide +kernel) (pa_cons (pv 1) (pa_cons (pe_bltn (v := .ty "tuple") (u := .type "tuple") (by rfl) T.b_tuple (by decide +kernel) rfl) pa_nil))) (nomark _)) (pss_one (ps_ret pe_bl)) pss_nil)
      (pss_one (ps_ret (pe_cmpR op_notIn_seq pe_bl (pe_lc (own := [("_law_k", 2)]) (g := (gName 2)) (by rfl) sc__law_same.nd (pi_range1 (by rfl) T.b_range (pa_cons (pe_callB call_len_seq (by rfl) T.b_len PySem.boot_len (pa_cons (pv 1) pa_nil)) pa_nil)) (blkOk_by (N := n__law_same) (sc := defScope s__law_same) (by decide +kernel)) (fun _ _ _ _ _ => (pg_name (i := 2) sc__law_same.nd rfl (.inl rfl))) (fun _ _ _ _ _ => pts_nil) (fun _ _ _ _ _ => (pe_fn G__law_same (hr.mono (Nat.le_refl _)) (by rfl) pass0 (pa_cons (pe_ix (show IxR _ (rIx K) from ix_seq) (pv 0) (pv 2) (fun _ _ => rfl)) (pa_cons (pe_ix (show IxR _ (rIx K) from ix_seq) (pv 1) (pv 2) (fun _ _ => rfl)) pa_nil))))) (by rfl)))))) pss_nil)
      (pss_cons (ps_if (PW.pt (pw_or (pt_cmpR op_isN (pv 1) pe_non (nomark _)) (pw_or1 (pt_cmpR op_isN (pv 0) pe_non (nomark _))))) (pss_one (ps_ret (pe_and (pe_cmpR op_isN (pv 1) pe_non (nomark _)) (pe_one (pe_cmpR op_isN (pv 0) pe_non (nomark _)))))) pss_nil)
      (pss_cons (ps_if (pt_cmpR op_ne (pe_callB call_isi (by rfl) T.b_isinstance (by decide +kernel) (pa_cons (pv 0) (pa_cons (pe_bltn (v := .ty "bool") (u := .type "bool") (by rfl) T.b_bool (by decide +kernel) rfl) pa_nil))) (pe_callB call_isi (by rfl) T.b_isinstance (by decide +kernel) (pa_cons (pv 1) (pa_cons (pe_bltn (v := .ty "bool") (u := .type "bool") (by rfl) T.b_bool (by decide +kernel) rfl) pa_nil))) (nomark _)) (pss_one (ps_ret pe_bl)) pss_nil)
      (pss_cons (ps_if (pt_cmpR op_ne (pe_callB call_isi (by rfl) T.b_isinstance (by decide +kernel) (pa_cons (pv 0) (pa_cons (pe_bltn (v := .ty "str") (u := .type "str") (by rfl) T.b_str (by decide +kernel) rfl) pa_nil))) (pe_callB call_isi (by rfl) T.b_isinstance (by decide +kernel) (pa_cons (pv 1) (pa_cons (pe_bltn (v := .ty "str") (u := .type "str") (by rfl) T.b_str (by decide +kernel) rfl) pa_nil))) (nomark _)) (pss_one (ps_ret pe_bl)) pss_nil)
      (pss_one (ps_ret (pe_and (pe_callB call_isiT (by rfl) T.b_isinstance (by decide +kernel) (pa_cons (pv 0) (pa_cons (pe_tup (pa_cons (pe_bltn (v := .ty "int") (u := .type "int") (by rfl) T.b_int (by decide +kernel) rfl) (pa_cons (pe_bltn (v := .ty "str") (u := .type "str") (by rfl) T.b_str (by decide +kernel) rfl) pa_nil))) pa_nil))) (pe_one (pe_cmpR op_eq (pv 0) (pv 1) (nomark _)))))))))), ?_⟩
    cases hs with
    | int i =>
      refine ⟨_, rfl, by show 2 ≤ sizeLine; decide, fun tp ntp => ⟨.int i, tp, _, _, _, _, rfl, upd_same, .cons (.ty "tuple") (.cons (.ty "list") .nil), .base (.int i), kitA (x := false) (y := false) (kit_ty (by decide +kernel)) (kit_ty (by decide +kernel)), _, rfl, ?_⟩⟩
      refine iteF ?_
      refine ⟨_, rfl, rfl, _, rfl, ?_⟩
      refine iteF ⟨_, rfl, rfl, _, rfl, ?_⟩
      refine iteF ?_
      refine ⟨_, rfl, .int i, .ty "bool", _, _, false, rfl, .ty _, .base (.int i), kit_ty (by decide +kernel), _, rfl, .int i, .ty "bool", _, _, false, rfl, .ty _, .base (.int i), kit_ty (by decide +kernel), rfl, _, rfl, ?_⟩
      refine iteF ?_
      refine ⟨_, rfl, .int i, .ty "str", _, _, false, rfl, .ty _, .base (.int i), kit_ty (by decide +kernel), _, rfl, .int i, .ty "str", _, _, false, rfl, .ty _, .base (.int i), kit_ty (by decide +kernel), rfl, _, rfl, ?_⟩
      refine iteF ?_
      refine ⟨_, rfl, by show 2 ≤ sizeLine; decide, fun tq ntq => ⟨.int i, tq, _, _, _, _, rfl, upd_same, .cons (.ty "int") (.cons (.ty "str") .nil), .base (.int i), kitA (x := true) (y := false) (kit_ty (by decide +kernel)) (kit_ty (by decide +kernel)), _, rfl, ?_⟩⟩
      refine iteT ⟨_, rfl, _, rfl, rfl, ?_⟩
      show Q (.bl (decide (V.int i = V.int i))) _
      rw [decide_eq_true rfl]
      exact k _ ((Same.new ntp).trans (Same.new ntq))
    | str z =>
      refine ⟨_, rfl, by show 2 ≤ sizeLine; decide, fun tp ntp => ⟨.str z, tp, _, _, _, _, rfl, upd_same, .cons (.ty "tuple") (.cons (.ty "list") .nil), .base (.str z), kitA (x := false) (y := false) (kit_ty (by decide +kernel)) (kit_ty (by decide +kernel)), _, rfl, ?_⟩⟩
      refine iteF ?_
      refine ⟨_, rfl, rfl, _, rfl, ?_⟩
      refine iteF ⟨_, rfl, rfl, _, rfl, ?_⟩
      refine iteF ?_
      refine ⟨_, rfl, .str z, .ty "bool", _, _, false, rfl, .ty _, .base (.str z), kit_ty (by decide +kernel), _, rfl, .str z, .ty "bool", _, _, false, rfl, .ty _, .base (.str z), kit_ty (by decide +kernel), rfl, _, rfl, ?_⟩
      refine iteF ?_
      refine ⟨_, rfl, .str z, .ty "str", _, _, true, rfl, .ty _, .base (.str z), kit_ty (by decide +kernel), _, rfl, .str z, .ty "str", _, _, true, rfl, .ty _, .base (.str z), kit_ty (by decide +kernel), rfl, _, rfl, ?_⟩
      refine iteF ?_
      refine ⟨_, rfl, by show 2 ≤ sizeLine; decide, fun tq ntq => ⟨.str z, tq, _, _, _, _, rfl, upd_same, .cons (.ty "int") (.cons (.ty "str") .nil), .base (.str z), kitA (x := false) (y := true) (kit_ty (by decide +kernel)) (kit_ty (by decide +kernel)), _, rfl, ?_⟩⟩
      refine iteT ⟨_, rfl, _, rfl, rfl, ?_⟩
      show Q (.bl (decide (V.str z = V.str z))) _
      rw [decide_eq_true rfl]
      exact k _ ((Same.new ntp).trans (Same.new ntq))
    | lst ha hb few el hh =>
      rename_i a b xs ys
      refine ⟨_, rfl, by show 2 ≤ sizeLine; decide, fun tp ntp => ⟨.ref b, tp, _, _, _, _, rfl, upd_same, .cons (.ty "tuple") (.cons (.ty "list") .nil), tyL ((Same.new ntp).seq hb), kitA (x := false) (y := true) (kit_ty (by decide +kernel)) (kit_ty (by decide +kernel)), _, rfl, ?_⟩⟩
      have S1 : Same H (upd H tp (.tup [V.ty "tuple", V.ty "list"])) := Same.new ntp
      generalize upd H tp (.tup [V.ty "tuple", V.ty "list"]) = H1 at S1
      refine iteT ⟨_, rfl, by show 2 ≤ sizeLine; decide, fun tq ntq => ⟨.ref a, tq, _, _, _, _, rfl, upd_same, .cons (.ty "tuple") (.cons (.ty "list") .nil), tyL ((S1.trans (Same.new ntq)).seq ha), kitA (x := false) (y := true) (kit_ty (by decide +kernel)) (kit_ty (by decide +kernel)), _, rfl, ?_⟩⟩
      have S2 : Same H (upd H1 tq (.tup [V.ty "tuple", V.ty "list"])) := S1.trans (Same.new ntq)
      generalize upd H1 tq (.tup [V.ty "tuple", V.ty "list"]) = H2 at S2
      have ha2 := S2.seq ha
      have hb2 := S2.seq hb
      refine iteF ⟨_, rfl, a, _, rfl, .inl ha2, _, rfl, b, _, rfl, .inl hb2, rfl, _, rfl, ?_⟩
      refine iteF' (by rw [el, decide_eq_true rfl]; rfl) ?_
      refine ⟨_, rfl, .ref a, .ty "tuple", _, _, false, rfl, .ty _, tyL ha2, kit_ty (by decide +kernel), _, rfl, .ref b, .ty "tuple", _, _, false, rfl, .ty _, tyL hb2, kit_ty (by decide +kernel), rfl, _, rfl, ?_⟩
      refine iteF ?_
      refine ⟨_, rfl, b, _, rfl, .inl hb2, (ys.length : Int), rfl, by omega, by omega, fun D nD => ?_⟩
      have SD := S2.trans (Same.new (o := .lst []) nD)
      refine lc_range (lo := 0) (n := ys.length) (fun i H3 => Same H2 H3 ∧ H3 D = some (.lst ((List.replicate i true).map V.bl))) ⟨Same.new nD, upd_same⟩ (fun i H3 hi q => ?_) (fun H3 q => ?_)
      · obtain ⟨S3, hD⟩ := q
        refine ⟨rfl, ?_⟩
        refine tYes_ ?_
        refine iteT ?_
        have e0 : (0 + (i : Int)) = (i : Int) := by omega
        have hx : xs[i]? = some (xs[i]'(by omega)) := List.getElem?_eq_getElem (by omega)
        have hy : ys[i]? = some ys[i] := List.getElem?_eq_getElem hi
        refine ⟨_, rfl, _, rfl, .inl ⟨a, xs, _, _, rfl, rfl, (S2.trans S3).seq ha, (by rw [e0]; exact atI_nat hx), _, rfl, _, rfl, .inl ⟨b, ys, _, _, rfl, rfl, (S2.trans S3).seq hb, (by rw [e0]; exact atI_nat hy), ?_⟩⟩⟩
        refine ⟨_, _, rfl, (hh i _ _ hx hy).same (S2.trans S3), fun H4 S4 => ⟨_, S4 _ _ hD, small1000 (by rw [List.length_map, List.length_replicate]; omega), fun x o hx0 => ?_, ?_⟩⟩
        · rw [upd_ne (ne_of_none hx0 nD)]
          exact S4 _ _ (S3 _ _ hx0)
        · rw [upd_same, List.replicate_succ', List.map_append]
          rfl
      · obtain ⟨S3, hD⟩ := q
        refine ⟨D, _, rfl, .inl (SqL.of hD), rfl, ?_, ?_⟩
        · rw [List.all_map]
          simp [flatV]
        · have e : (!inV (.bl false) ((List.replicate ys.length true).map V.bl)) = true := by
            rw [inV, List.any_map]
            simp [eqV]
          show Q (.bl (!inV (.bl false) ((List.replicate ys.length true).map V.bl))) H3
          rw [e]
          exact k _ (S2.trans S3)
    | tup ha hb few el hh =>
      rename_i a b xs ys
      refine ⟨_, rfl, by show 2 ≤ sizeLine; decide, fun tp ntp => ⟨.ref b, tp, _, _, _, _, rfl, upd_same, .cons (.ty "tuple") (.cons (.ty "list") .nil), tyT (sameT (Same.new ntp) hb), kitA (x := true) (y := false) (kit_ty (by decide +kernel)) (kit_ty (by decide +kernel)), _, rfl, ?_⟩⟩
      have S1 : Same H (upd H tp (.tup [V.ty "tuple", V.ty "list"])) := Same.new ntp
      generalize upd H tp (.tup [V.ty "tuple", V.ty "list"]) = H1 at S1
      refine iteT ⟨_, rfl, by show 2 ≤ sizeLine; decide, fun tq ntq => ⟨.ref a, tq, _, _, _, _, rfl, upd_same, .cons (.ty "tuple") (.cons (.ty "list") .nil), tyT (sameT (S1.trans (Same.new ntq)) ha), kitA (x := true) (y := false) (kit_ty (by decide +kernel)) (kit_ty (by decide +kernel)), _, rfl, ?_⟩⟩
      have S2 : Same H (upd H1 tq (.tup [V.ty "tuple", V.ty "list"])) := S1.trans (Same.new ntq)
      generalize upd H1 tq (.tup [V.ty "tuple", V.ty "list"]) = H2 at S2
      have ha2 := sameT S2 ha
      have hb2 := sameT S2 hb
      refine iteF ⟨_, rfl, a, _, rfl, .inr ha2, _, rfl, b, _, rfl, .inr hb2, rfl, _, rfl, ?_⟩
      refine iteF' (by rw [el, decide_eq_true rfl]; rfl) ?_
      refine ⟨_, rfl, .ref a, .ty "tuple", _, _, true, rfl, .ty _, tyT ha2, kit_ty (by decide +kernel), _, rfl, .ref b, .ty "tuple", _, _, true, rfl, .ty _, tyT hb2, kit_ty (by decide +kernel), rfl, _, rfl, ?_⟩
      refine iteF ?_
      refine ⟨_, rfl, b, _, rfl, .inr hb2, (ys.length : Int), rfl, by omega, by omega, fun D nD => ?_⟩
      have SD := S2.trans (Same.new (o := .lst []) nD)
      refine lc_range (lo := 0) (n := ys.length) (fun i H3 => Same H2 H3 ∧ H3 D = some (.lst ((List.replicate i true).map V.bl))) ⟨Same.new nD, upd_same⟩ (fun i H3 hi q => ?_) (fun H3 q => ?_)
      · obtain ⟨S3, hD⟩ := q
        refine ⟨rfl, ?_⟩
        refine tYes_ ?_
        refine iteT ?_
        have e0 : (0 + (i : Int)) = (i : Int) := by omega
        have hx : xs[i]? = some (xs[i]'(by omega)) := List.getElem?_eq_getElem (by omega)
        have hy : ys[i]? = some ys[i] := List.getElem?_eq_getElem hi
        refine ⟨_, rfl, _, rfl, .inr <| .inl ⟨a, xs, _, _, rfl, rfl, sameT (S2.trans S3) ha, (by rw [e0]; exact atI_nat hx), _, rfl, _, rfl, .inr <| .inl ⟨b, ys, _, _, rfl, rfl, sameT (S2.trans S3) hb, (by rw [e0]; exact atI_nat hy), ?_⟩⟩⟩
        refine ⟨_, _, rfl, (hh i _ _ hx hy).same (S2.trans S3), fun H4 S4 => ⟨_, S4 _ _ hD, small1000 (by rw [List.length_map, List.length_replicate]; omega), fun x o hx0 => ?_, ?_⟩⟩
        · rw [upd_ne (ne_of_none hx0 nD)]
          exact S4 _ _ (S3 _ _ hx0)
        · rw [upd_same, List.replicate_succ', List.map_append]
          rfl
      · obtain ⟨S3, hD⟩ := q
        refine ⟨D, _, rfl, .inl (SqL.of hD), rfl, ?_, ?_⟩
        · rw [List.all_map]
          simp [flatV]
        · have e : (!inV (.bl false) ((List.replicate ys.length true).map V.bl)) = true := by
            rw [inV, List.any_map]
            simp [eqV]
          show Q (.bl (!inV (.bl false) ((List.replicate ys.length true).map V.bl))) H3
          rw [e]
          exact k _ (S2.trans S3)
end
end K13

set_option Elab.async false
set_option maxRecDepth 100000
set_option maxHeartbeats 4000000
set_option linter.all false
namespace K13
open PySem PySem.Spec PyProof.Rows L2
def kindH (k : Bool) : V := .str (if k then "answer" else "rang")
/-- a history that is made, what is open in it, its kinds -/
structure HS (K : PySem.W.Frag) (H0 H : Hp) (b c p q r : Addr) (ts : List Tok) : Prop where
  bg : Bg H b c
  bs : Bs H0 H b
  hp : ∃ xs, H p = some (.lst xs) ∧ All2 (TokAt K H) xs ts
  hq : H q = some (.lst (nats (goAll s0 ts).run))
  hr : H r = some (.lst ((goAll s0 ts).kinds.map kindH))
  vd : valid s0 ts = true
  ne : ts ≠ []
  fin : (goAll s0 ts).fin = false
  ow : ∀ t ∈ ts, okW t
  new : H0 p = none ∧ H0 q = none ∧ H0 r = none
  df : p ≠ q ∧ p ≠ r ∧ q ≠ r
  pb : p ≠ b ∧ q ≠ b ∧ r ≠ b ∧ p ≠ c ∧ q ≠ c ∧ r ≠ c
theorem HS.to {K : PySem.W.Frag} {H0 H H' : Hp} {b c p q r : Addr} {ts : List Tok} (h : HS K H0 H b c p q r ts) (bg : Bg H' b c) (bs : Bs H H' b) : HS K H0 H' b c p q r ts := by
  obtain ⟨xs, h1, h2⟩ := h.hp
  exact ⟨bg, h.bs.trans bs, ⟨xs, bs _ _ h1 h.pb.1, h2.imp fun x y _ q => q.stay fun a zs hz => bsT bs h.bg hz⟩, bs _ _ h.hq h.pb.2.1, bs _ _ h.hr h.pb.2.2.1, h.vd, h.ne, h.fin, h.ow, h.new, h.df, h.pb⟩
theorem HS.same {K : PySem.W.Frag} {H0 H H' : Hp} {b c p q r : Addr} {ts : List Tok} (h : HS K H0 H b c p q r ts) (e : Same H H') : HS K H0 H' b c p q r ts := h.to (h.bg.same e) (Same.bs e)
theorem HS.step {K : PySem.W.Frag} {H0 H H' : Hp} {b c p q r : Addr} {ts : List Tok} {t : Tok} {xs : List V} (h : HS K H0 H b c p q r ts) (bg : Bg H' b c) (bs : Bs H0 H' b) (hp : H' p = some (.lst xs)) (hx : All2 (TokAt K H') xs (ts ++ [t]))
    (hq : H' q = some (.lst (nats (go (goAll s0 ts) t).run))) (hr : H' r = some (.lst ((go (goAll s0 ts) t).kinds.map kindH))) (m : may (goAll s0 ts) t = true) (l : (go (goAll s0 ts) t).fin = false) (ow : okW t) : HS K H0 H' b c p q r (ts ++ [t]) := by
  have e : goAll s0 (ts ++ [t]) = go (goAll s0 ts) t := by rw [goAll_app]; rfl
  refine ⟨bg, bs, ⟨xs, hp, hx⟩, by rw [e]; exact hq, by rw [e]; exact hr, ?_, by simp, by rw [e]; exact l, fun z hz => ?_, h.new, h.df, h.pb⟩
  · rw [valid_app, h.vd]
    simp [valid, m]
  · rcases List.mem_append.mp hz with y | y
    · exact h.ow z y
    · rw [List.mem_singleton.mp y]
      exact ow
theorem may_free {s : S} {t : Tok} (f : s.fin = false) (l : s.len ≠ 0) (b : t.isBegin = false) (k : kindOk s t = true) : may s t = true := by
  have : (s.len == 0) = false := by simpa using l
  simp [may, f, b, this, k]
def spHist (K : PySem.W.Frag) : Sp := fun vs H Q _ => ∃ (b c : Addr), vs = [.ref b] ∧ Bg H b c ∧ ∀ (p : Addr) (xs : List V) (ts : List Tok) (H' : Hp), Bg H' b c → Bs H H' b → H p = none → H' p = some (.lst xs) → All2 (TokAt K H') xs ts → ts ≠ [] → valid s0 ts = true →
  (∀ t ∈ ts, okW t) → ts.length ≤ 62 → Q (.ref p) H'
theorem isW_x : isWord "x" = true := by decide +kernel
theorem isW_a : isWord "a" = true := by decide +kernel
theorem good_all : ∀ (ts : List Tok) {s : S}, Good s → Good (goAll s ts)
  | [], _, g => g
  | t :: r, _, g => good_all r (g.go t)
theorem kinds_len : ∀ (ts : List Tok) (s : S), (goAll s ts).kinds.length ≤ s.kinds.length + ts.length
  | [], s => Nat.le_refl _
  | t :: r, s => by
    have h1 := kinds_len r (go s t)
    have h2 : (go s t).kinds.length ≤ s.kinds.length + 1 := by
      unfold go
      split
      · simp
      · split <;> simp
    simp only [goAll, List.length_cons]
    omega
theorem run_len (ts : List Tok) : (goAll s0 ts).run.length ≤ ts.length := by
  have g := good_all ts good0
  have h1 := srt_few g.srr g.few'
  have h2 := kinds_len ts s0
  have h3 : s0.kinds.length = 0 := rfl
  omega
theorem and_i {A B : TT} {σ : L2.St} {H : Hp} {Q : Bool → Hp → Prop} {x y : Bool} (ha : ∀ Q : Bool → Hp → Prop, Q x H → A σ H Q) (hb : ∀ Q : Bool → Hp → Prop, Q y H → B σ H Q) (q : Q (x && y) H) : tAnd A B σ H Q := by
  refine ha _ ?_
  cases x with
  | true => exact iteT (hb _ q)
  | false => exact iteF q
/-- the three tokens of a start -/
def tok1 (j : Nat) (z : Str) : Tok := if j = 1 then .set else .asked z
def tok3 (j : Nat) (z : Str) : Tok := if j = 0 then .signal z "a" else if j = 1 then .noted z else .marked z
theorem three {α : Type} {x y z : α} {j : Nat} (h : j < 3) : [x, y, z][j]? = some (if j = 0 then x else if j = 1 then y else z) := by
  match j, h with
  | 0, _ => rfl
  | 1, _ => rfl
  | 2, _ => rfl
theorem nats_int (ns : List Nat) : nats ns = (ns.map fun n : Nat => (n : Int)).map V.int := by rw [List.map_map]; rfl
/-- one token more, nothing else -/
theorem HS.add {K : PySem.W.Frag} {H0 H : Hp} {b c p q r : Addr} {ts : List Tok} {t : Tok} {xs : List V} {v : V} (h : HS K H0 H b c p q r ts) (hp : H p = some (.lst xs)) (hx : All2 (TokAt K H) xs ts) (hv : TokAt K H v t)
    (er : (go (goAll s0 ts) t).run = (goAll s0 ts).run) (ek : (go (goAll s0 ts) t).kinds = (goAll s0 ts).kinds) (m : may (goAll s0 ts) t = true) (l : (go (goAll s0 ts) t).fin = false) (ow : okW t) : HS K H0 (upd H p (.lst (xs ++ [v]))) b c p q r (ts ++ [t]) := by
  refine h.step (xs := xs ++ [v]) (h.bg.beside h.pb.1 h.pb.2.2.2.1) (fun x o hx xb => by rw [upd_ne (ne_of_none hx h.new.1)]; exact h.bs x o hx xb) upd_same
    (All2.app (hx.imp fun a b _ q => q.stay fun c zs hz => updT hp hz) (All2.one (hv.stay fun c zs hz => updT hp hz))) ?_ ?_ m l ow
  · rw [upd_ne h.df.1.symm, er]
    exact h.hq
  · rw [upd_ne h.df.2.1.symm, ek]
    exact h.hr
section
variable {P : Program} {w : World} {K : PySem.W.Frag} {mg : Str → Option Value} {base : Heap}
theorem ok_history {f : Addr} {fd : FuncData} (F : FnP K "_law_history" "_law_history" s__law_history f fd) (T : Tx w K mg) (G__law_draw : Def P w K mg base CX0 1 "_law_draw" p__law_draw spDraw) (G__law_one : Def P w K mg base CX0 2 "_law_one" p__law_one (spOne K)) (G__law_words : Def P w K mg base CX0 2 "_law_words" p__law_words (spWords K)) : FnOk P w K mg base CX0 3 f fd p__law_history (spHist K) := by
  refine F.ok sc__law_history (fun vs H Q E h => ?_) (fun cdv A outer s H vs Q E hr h => ?_)
  · obtain ⟨b, c, rfl, _⟩ := h
    rfl
  · obtain ⟨b, c, rfl, hb, k⟩ := h
    refine ⟨_, PSs.nox (pss_cons (ps_set (i := 1) sc__law_history.nd rfl (.inl rfl) (pe_lst (pa_cons (pe_tup (pa_cons pe_str (pa_cons (pe_ix ix_list (pe_fn G__law_words (hr.mono (by decide)) (by rfl) pass0 (pa_cons (pv 0) (pa_cons pe_int (pa_cons pe_int (pa_cons (pe_lst pa_nil) pa_nil))))) pe_int (fun _ _ => rfl)) pa_nil))) pa_nil)))
      (pss_cons (ps_set (i := 2) sc__law_history.nd rfl (.inl rfl) (pe_lst pa_nil))
      (pss_cons (ps_set (i := 3) sc__law_history.nd rfl (.inl rfl) (pe_lst pa_nil))
      (pss_cons (ps_for PassesOwn.never rfl (pi_range1 (by rfl) T.b_range (pa_cons (pe_fn G__law_draw (hr.mono (by decide)) (by rfl) pass0 (pa_cons (pv 0) (pa_cons pe_int pa_nil))) pa_nil)) (pg_name (i := 4) sc__law_history.nd rfl (.inl rfl)) (pss_cons (ps_set (i := 5) sc__law_history.nd rfl (.inl rfl) (pe_fn G__law_draw (hr.mono (by decide)) (by rfl) pass0 (pa_cons (pv 0) (pa_cons pe_int pa_nil))))
      (pss_cons (ps_set (i := 6) sc__law_history.nd rfl (.inl rfl) (pe_un un_neg pe_int))
      (C8.pss_cut (ps_if (pt_cmpR op_gt (pe_callB call_len_seq (by rfl) T.b_len PySem.boot_len (pa_cons (pv 2) pa_nil)) pe_int (nomark _)) (pss_one (ps_set (i := 6) sc__law_history.nd rfl (.inl rfl) (pe_fn G__law_one (hr.mono (by decide)) (by rfl) pass0 (pa_cons (pv 0) (pa_cons (pv 2) pa_nil))))) pss_nil)
      (pss_cons (ps_set (i := 7) sc__law_history.nd rfl (.inl rfl) (pe_ix ix_list (pe_fn G__law_words (hr.mono (by decide)) (by rfl) pass0 (pa_cons (pv 0) (pa_cons pe_int (pa_cons pe_int (pa_cons (pe_lst pa_nil) pa_nil))))) pe_int (fun _ _ => rfl)))
      (pss_one (ps_if (PW.pt (pw_and (pt_cmpR op_lt (pv 5) pe_int (nomark _)) (pw_and1 (pt_cmpR op_lt (pe_callB call_len_seq (by rfl) T.b_len PySem.boot_len (pa_cons (pv 2) pa_nil)) pe_int (nomark _))))) (pss_cons (ps_expr (pe_bm PySem.F.plainAttrs_list PySem.F.slot_list_append PySem.F.type_list_append mt_append (pv 1) (pa_cons (pe_ix ix_list (pe_lst (pa_cons (pe_tup (pa_cons pe_str (pa_cons (pv 7) pa_nil))) (pa_cons (pe_tup (pa_cons pe_str pa_nil)) (pa_cons (pe_tup (pa_cons pe_str (pa_cons (pv 7) pa_nil))) pa_nil)))) (pv 5) (fun _ _ => rfl)) pa_nil)))
      (pss_cons (ps_expr (pe_bm PySem.F.plainAttrs_list PySem.F.slot_list_append PySem.F.type_list_append mt_append (pv 2) (pa_cons (pe_callB call_len_seq (by rfl) T.b_len PySem.boot_len (pa_cons (pv 3) pa_nil)) pa_nil)))
      (pss_one (ps_expr (pe_bm PySem.F.plainAttrs_list PySem.F.slot_list_append PySem.F.type_list_append mt_append (pv 3) (pa_cons (pe_ix ix_list (pe_lst (pa_cons pe_str (pa_cons pe_str (pa_cons pe_str pa_nil)))) (pv 5) (fun _ _ => rfl)) pa_nil)))))) (pss_one (ps_if (PW.pt (pw_and (pt_cmpR op_lt (pv 5) pe_int (nomark _)) (pw_and1 (pt_cmpR op_ge (pv 6) pe_int (nomark _))))) (pss_cons (ps_expr (pe_bm PySem.F.plainAttrs_list PySem.F.slot_list_remove PySem.F.type_list_remove mt_remove (pv 2) (pa_cons (pv 6) pa_nil)))
      (pss_one (ps_if (pt_cmpR op_eq (pv 5) pe_int (nomark _)) (pss_one (ps_expr (pe_bm PySem.F.plainAttrs_list PySem.F.slot_list_append PySem.F.type_list_append mt_append (pv 1) (pa_cons (pe_tup (pa_cons pe_str (pa_cons (pv 6) pa_nil))) pa_nil)))) (pss_one (ps_expr (pe_bm PySem.F.plainAttrs_list PySem.F.slot_list_append PySem.F.type_list_append mt_append (pv 1) (pa_cons (pe_slice sl_tupA (pe_op op_catT (pe_tup (pa_cons (pe_ix ix_list (pv 3) (pv 6) (fun _ _ => rfl)) (pa_cons (pv 6) pa_nil))) (pe_tup (pa_cons (pv 7) pa_nil))) po_none (po_some (pe_op op_add pe_int (pe_callTy call_int1 (by rfl) T.b_int (by decide +kernel) (pa_cons (pe_cmpR op_eq (pe_ix ix_list (pv 3) (pv 6) (fun _ _ => rfl)) pe_str (nomark _)) pa_nil))))) pa_nil))))))) (pss_one (ps_expr (pe_bm PySem.F.plainAttrs_list PySem.F.slot_list_append PySem.F.type_list_append mt_append (pv 1) (pa_cons (pe_ix ix_list (pe_lst (pa_cons (pe_tup (pa_cons pe_str (pa_cons (pv 7) (pa_cons pe_str pa_nil)))) (pa_cons (pe_tup (pa_cons pe_str (pa_cons (pv 7) pa_nil))) (pa_cons (pe_tup (pa_cons pe_str (pa_cons (pv 7) pa_nil))) pa_nil)))) (pe_op op_modN (pv 5) pe_int) (fun _ _ => rfl)) pa_nil)))))))))))))
      (pss_cons (ps_if (pt_cmpR op_eq (pe_fn G__law_draw (hr.mono (by decide)) (by rfl) pass0 (pa_cons (pv 0) (pa_cons pe_int pa_nil))) pe_int (nomark _)) (pss_one (ps_expr (pe_bm PySem.F.plainAttrs_list PySem.F.slot_list_append PySem.F.type_list_append mt_append (pv 1) (pa_cons (pe_tup (pa_cons pe_str (pa_cons pe_str pa_nil))) pa_nil)))) pss_nil)
      (pss_one (ps_ret (pv 1)))))))), ?_⟩
    -- [('begin', words(..)[0])]
    refine ⟨_, rfl, by show 0 ≤ sizeLine; decide, fun e0 n0 => ?_⟩
    have S0 : Same H (upd H e0 (.lst [])) := Same.new n0
    refine ⟨b, c, e0, 8, rfl, hb.same S0, by decide, by decide, SqL.of upd_same, fun z p0 H1 hz hb1 bs1 np0 hp0 => ?_⟩
    have bs01 : Bs H H1 b := (Same.bs S0).trans bs1
    refine ⟨p0, _, _, .str z, rfl, rfl, SqL.of hp0, at0, by show 2 ≤ sizeLine; decide, fun t0 nt0 => ⟨by show 1 ≤ sizeLine; decide, fun p np => ?_⟩⟩
    refine ⟨by show 0 ≤ sizeLine; decide, fun q nq => ⟨by show 0 ≤ sizeLine; decide, fun r nr => ?_⟩⟩
    have S1 : Same H1 (upd H1 t0 (.tup [V.str "begin", V.str z])) := Same.new nt0
    have pq : p ≠ q := fun y => by rw [← y, upd_same] at nq; cases nq
    have pr : p ≠ r := fun y => by rw [← y, upd_ne pq, upd_same] at nr; cases nr
    have qr : q ≠ r := fun y => by rw [← y, upd_same] at nr; cases nr
    have nq' := none1 nq
    have nr' := none1 (none1 nr)
    have hbt := hb1.same S1
    have bn := hbt.tr np
    have qn := hbt.tr nq'
    have rn := hbt.tr nr'
    have hnone : ∀ x, upd H1 t0 (.tup [V.str "begin", V.str z]) x = none → x ≠ b → H x = none := fun x hx xb => by
      cases e : H x with
      | none => rfl
      | some o => rw [S1 _ _ (bs01 _ _ e xb)] at hx; cases hx
    have S2 : Same (upd H1 t0 (.tup [V.str "begin", V.str z])) (upd (upd (upd (upd H1 t0 (.tup [V.str "begin", V.str z])) p (.lst [.ref t0])) q (.lst [])) r (.lst [])) := ((Same.new np).trans (Same.new nq)).trans (Same.new nr)
    have hh : HS K H (upd (upd (upd (upd H1 t0 (.tup [V.str "begin", V.str z])) p (.lst [.ref t0])) q (.lst [])) r (.lst [])) b c p q r [.begin z] := by
      refine ⟨hbt.same S2, bs01.trans (Same.bs (S1.trans S2)), ⟨[.ref t0], ?_, All2.one ⟨t0, rfl, SqT.of (S2 _ _ upd_same)⟩⟩, ?_, upd_same, ?_, by simp, rfl, ?_, ⟨hnone p np bn.1, hnone q nq' qn.1, hnone r nr' rn.1⟩, ⟨pq, pr, qr⟩, bn.1, qn.1, rn.1, bn.2, qn.2, rn.2⟩
      · rw [upd_ne pr, upd_ne pq, upd_same]
      · rw [upd_ne qr, upd_same]
        rfl
      · rfl
      · intro t ht
        rw [List.mem_singleton.mp ht]
        intro y hy
        rw [List.mem_singleton.mp hy]
        exact hz
    generalize upd (upd (upd (upd H1 t0 (.tup [V.str "begin", V.str z])) p (.lst [.ref t0])) q (.lst [])) r (.lst []) = H2 at hh
    refine ⟨_, rfl, b, c, 60, rfl, hh.bg, by decide, fun dd H3 hd hb3 ho3 => ?_⟩
    have hh3 := hh.to hb3 ho3.bs
    refine ⟨dd, rfl, by omega, by omega, ?_⟩
    refine for_range (lo := 0) (n := (dd : Int).toNat) (fun i σ H' => ∃ (ts : List Tok) (v4 v5 v6 v7 : Option V), σ = [some (.ref b), some (.ref p), some (.ref q), some (.ref r), v4, v5, v6, v7] ∧ HS K H H' b c p q r ts ∧ ts.length ≤ i + 1)
      ⟨[.begin z], none, none, none, none, rfl, hh3, Nat.le_refl _⟩ (fun i σ H4 hi y => ?_) (fun σ H4 y => ?_)
    · obtain ⟨ts, v4, v5, v6, v7, rfl, h4, lts⟩ := y
      refine ⟨_, rfl, b, c, 9, rfl, h4.bg, by decide, fun wy H5 hwy hb5 ho5 => ?_⟩
      have h5 := h4.to hb5 ho5.bs
      have hw9 : wy < 9 := by omega
      refine ⟨1, rfl, ?_⟩
      have lr := run_len ts
      have gd := good_all ts good0
      have lk := kinds_len ts s0
      have lk0 : s0.kinds.length = 0 := rfl
      have hlen : (goAll s0 ts).len = ts.length := by
        rw [goAll_len]
        show 0 + ts.length = ts.length
        omega
      have hne : (goAll s0 ts).len ≠ 0 := by
        rw [hlen]
        exact fun y => h5.ne (List.length_eq_zero_iff.mp y)
      refine ⟨fun σ' H6 => ∃ num : Int, σ' = [some (.ref b), some (.ref p), some (.ref q), some (.ref r), some (.int (0 + (i : Int))), some (.int wy), some (.int num), v7] ∧ HS K H H6 b c p q r ts ∧
        (num < 0 ∨ ∃ n : Nat, num = n ∧ n ∈ (goAll s0 ts).run), ?_, ?_⟩
      · refine ⟨_, rfl, q, _, rfl, .inl (SqL.of h5.hq), _, _, rfl, rfl, _, rfl, ?_⟩
        refine ite2 (fun c1 => ?_) fun c1 => ?_
        · have c1' := of_decide_eq_true c1
          rw [List.length_map] at c1'
          refine ⟨_, rfl, _, rfl, b, c, q, _, rfl, h5.bg, SqL.of h5.hq, ?_, by rw [List.length_map]; omega, fun v H6 hv hb6 ho6 => ?_⟩
          · intro y
            have : (nats (goAll s0 ts).run).length = 0 := by rw [y]; rfl
            rw [List.length_map] at this
            omega
          · obtain ⟨n, hn, rfl⟩ := List.mem_map.mp hv
            exact ⟨n, rfl, h5.to hb6 ho6.bs, .inr ⟨n, rfl, hn⟩⟩
        · exact ⟨-1, rfl, h5, .inl (by decide)⟩
      · rintro σ' H6 ⟨num, rfl, h6, hnum⟩
        refine ⟨_, rfl, by show 0 ≤ sizeLine; decide, fun e1 ne1 => ?_⟩
        have Se := Same.new (o := .lst []) ne1
        refine ⟨b, c, e1, 3, rfl, h6.bg.same Se, by decide, by decide, SqL.of upd_same, fun z7 p7 H7 hz7 hb7 bs7 np7 hp7 => ?_⟩
        have h7 := h6.to hb7 ((Same.bs Se).trans bs7)
        refine ⟨p7, _, _, .str z7, rfl, rfl, SqL.of hp7, at0, ?_⟩
        have ow1 : ∀ j, okW (tok1 j z7) := fun j y hy => by
          unfold tok1 at hy
          split at hy <;> simp [Tok.words] at hy
          rw [hy]; exact hz7
        have ow3 : ∀ j, okW (tok3 j z7) := fun j y hy => by
          unfold tok3 at hy
          split at hy
          · simp [Tok.words] at hy
            rcases hy with e | e <;> rw [e]
            · exact hz7
            · exact isW_a
          · split at hy <;> simp [Tok.words] at hy <;> rw [hy] <;> exact hz7
        obtain ⟨xs, hp, hxs⟩ := h7.hp
        have lxs := hxs.len
        have lx1 : xs.length ≤ 1000 := by omega
        have lts2 : ts.length + 1 ≤ i + 1 + 1 := by omega
        dsimp only [gName, tIfS]
        refine and_i (x := decide ((wy : Int) < 3)) (y := decide (((nats (goAll s0 ts).run).length : Int) < 8)) (fun Q q => ⟨_, rfl, _, _, rfl, rfl, _, rfl, q⟩) (fun Q y => ⟨_, rfl, q, _, rfl, .inl (SqL.of h7.hq), _, _, rfl, rfl, _, rfl, y⟩) ?_
        refine ite2 (fun c1 => ?_) fun c1 => ?_
        · have w3 : wy < 3 := by
            simp only [Bool.and_eq_true, decide_eq_true_eq] at c1
            omega
          refine ⟨_, rfl, Or.inl ⟨rfl, _, SqL.of hp⟩, _, rfl, by show 2 ≤ sizeLine; decide, fun t1 n1 => ⟨by show 1 ≤ sizeLine; decide, fun t2 n2 => ⟨_, rfl, by show 2 ≤ sizeLine; decide, fun t3 n3 => ⟨by show 3 ≤ sizeLine; decide, fun L nL => ?_⟩⟩⟩⟩
          have Sx1 := Same.new (o := .tup [V.str "asked", V.str z7]) n1
          have Sx2 := Same.new (o := .tup [V.str "set"]) n2
          have Sx3 := Same.new (o := .tup [V.str "asked", V.str z7]) n3
          have SL := Same.new (o := .lst [V.ref t1, V.ref t2, V.ref t3]) nL
          have S4 := ((Sx1.trans Sx2).trans Sx3).trans SL
          have h8 := h7.same S4
          have hp8 := S4 _ _ hp
          have T1 : TokAt K (upd (upd (upd (upd H7 t1 (.tup [V.str "asked", V.str z7])) t2 (.tup [V.str "set"])) t3 (.tup [V.str "asked", V.str z7])) L (.lst [V.ref t1, V.ref t2, V.ref t3])) (.ref t1) (.asked z7) := ⟨t1, rfl, SqT.of (((Sx2.trans Sx3).trans SL) _ _ upd_same)⟩
          have T2 : TokAt K (upd (upd (upd (upd H7 t1 (.tup [V.str "asked", V.str z7])) t2 (.tup [V.str "set"])) t3 (.tup [V.str "asked", V.str z7])) L (.lst [V.ref t1, V.ref t2, V.ref t3])) (.ref t2) .set := ⟨t2, rfl, SqT.of ((Sx3.trans SL) _ _ upd_same)⟩
          have T3 : TokAt K (upd (upd (upd (upd H7 t1 (.tup [V.str "asked", V.str z7])) t2 (.tup [V.str "set"])) t3 (.tup [V.str "asked", V.str z7])) L (.lst [V.ref t1, V.ref t2, V.ref t3])) (.ref t3) (.asked z7) := ⟨t3, rfl, SqT.of (SL _ _ upd_same)⟩
          have hL : upd (upd (upd (upd H7 t1 (.tup [V.str "asked", V.str z7])) t2 (.tup [V.str "set"])) t3 (.tup [V.str "asked", V.str z7])) L (.lst [V.ref t1, V.ref t2, V.ref t3]) L = some (.lst [V.ref t1, V.ref t2, V.ref t3]) := upd_same
          have hxs8 : All2 (TokAt K _) xs ts := hxs.imp fun x y _ q => q.same S4
          generalize upd (upd (upd (upd H7 t1 (.tup [V.str "asked", V.str z7])) t2 (.tup [V.str "set"])) t3 (.tup [V.str "asked", V.str z7])) L (.lst [V.ref t1, V.ref t2, V.ref t3]) = H8 at h8 hp8 T1 T2 T3 hL hxs8
          have hv : TokAt K H8 (if wy = 0 then V.ref t1 else if wy = 1 then V.ref t2 else V.ref t3) (tok1 wy z7) := by
            match wy, w3 with
            | 0, _ => exact T1
            | 1, _ => exact T2
            | 2, _ => exact T3
          refine ⟨_, rfl, L, _, _, _, rfl, rfl, SqL.of hL, atI_nat (three w3), p, xs, _, rfl, rfl, hp8, small1000 (by omega), ?_⟩
          have h9q : upd H8 p (.lst (xs ++ [if wy = 0 then V.ref t1 else if wy = 1 then V.ref t2 else V.ref t3])) q = some (.lst (nats (goAll s0 ts).run)) := by rw [upd_ne h8.df.1.symm]; exact h8.hq
          have h9r : upd H8 p (.lst (xs ++ [if wy = 0 then V.ref t1 else if wy = 1 then V.ref t2 else V.ref t3])) r = some (.lst ((goAll s0 ts).kinds.map kindH)) := by rw [upd_ne h8.df.2.1.symm]; exact h8.hr
          have h9p : upd H8 p (.lst (xs ++ [if wy = 0 then V.ref t1 else if wy = 1 then V.ref t2 else V.ref t3])) p = some (.lst (xs ++ [if wy = 0 then V.ref t1 else if wy = 1 then V.ref t2 else V.ref t3])) := upd_same
          have h9x : All2 (TokAt K (upd H8 p (.lst (xs ++ [if wy = 0 then V.ref t1 else if wy = 1 then V.ref t2 else V.ref t3])))) (xs ++ [if wy = 0 then V.ref t1 else if wy = 1 then V.ref t2 else V.ref t3]) (ts ++ [tok1 wy z7]) := All2.app (hxs8.imp fun a b _ q => q.stay fun c zs hz => updT hp8 hz) (All2.one (hv.stay fun c zs hz => updT hp8 hz))
          have bg9 := h8.bg.beside (p := p) (o := .lst (xs ++ [if wy = 0 then V.ref t1 else if wy = 1 then V.ref t2 else V.ref t3])) h8.pb.1 h8.pb.2.2.2.1
          have bs9 : Bs H (upd H8 p (.lst (xs ++ [if wy = 0 then V.ref t1 else if wy = 1 then V.ref t2 else V.ref t3]))) b := fun x o hx xb => by rw [upd_ne (ne_of_none hx h8.new.1)]; exact h8.bs x o hx xb
          generalize upd H8 p (.lst (xs ++ [if wy = 0 then V.ref t1 else if wy = 1 then V.ref t2 else V.ref t3])) = H9 at h9q h9r h9p h9x bg9 bs9
          refine ⟨_, rfl, Or.inl ⟨rfl, _, SqL.of h9q⟩, _, rfl, r, _, rfl, .inl (SqL.of h9r), q, _, _, rfl, rfl, h9q, small1000 (by rw [List.length_map]; omega), ?_⟩
          rw [List.length_map]
          have h10r : upd H9 q (.lst (nats (goAll s0 ts).run ++ [V.int ((goAll s0 ts).kinds.length : Nat)])) r = some (.lst ((goAll s0 ts).kinds.map kindH)) := by rw [upd_ne h8.df.2.2.symm]; exact h9r
          refine ⟨_, rfl, Or.inl ⟨rfl, _, SqL.of h10r⟩, by show 3 ≤ sizeLine; decide, fun M nM => ?_⟩
          have SM := Same.new (o := .lst [V.str "answer", V.str "rang", V.str "answer"]) nM
          have h11r := SM _ _ h10r
          refine ⟨_, rfl, M, _, _, _, rfl, rfl, SqL.of upd_same, atI_nat (three w3), r, _, _, rfl, rfl, h11r, small1000 (by rw [List.length_map]; omega), ?_⟩
          have hMp : M ≠ p := fun y => by rw [y, upd_ne h8.df.1, h9p] at nM; cases nM
          have hMq : M ≠ q := fun y => by rw [y, upd_same] at nM; cases nM
          have rM : r ≠ M := fun y => by rw [← y, h10r] at nM; cases nM
          have ow := ow1 wy
          have est : (tok1 wy z7).start? = some (decide (wy ≠ 1)) := by
            match wy, w3 with
            | 0, _ => rfl
            | 1, _ => rfl
            | 2, _ => rfl
          have ego : go (goAll s0 ts) (tok1 wy z7) = ⟨(goAll s0 ts).run ++ [(goAll s0 ts).kinds.length], (goAll s0 ts).kinds ++ [decide (wy ≠ 1)], ths0 (goAll s0 ts) (tok1 wy z7) ++ [(goAll s0 ts).kinds.length], (goAll s0 ts).len + 1, (tok1 wy z7).last⟩ := by unfold go; rw [est]
          have elast : (tok1 wy z7).last = false := by unfold tok1; split <;> rfl
          have ekind : kindOk (goAll s0 ts) (tok1 wy z7) = true := by unfold tok1; split <;> rfl
          have ebeg : (tok1 wy z7).isBegin = false := by unfold tok1; split <;> rfl
          have bgM := (bg9.beside (p := q) (o := .lst (nats (goAll s0 ts).run ++ [V.int ((goAll s0 ts).kinds.length : Nat)])) h8.pb.2.1 h8.pb.2.2.2.2.1).same SM
          refine ⟨ts ++ [tok1 wy z7], _, _, _, _, rfl, h8.step (xs := xs ++ [if wy = 0 then V.ref t1 else if wy = 1 then V.ref t2 else V.ref t3]) (bgM.beside h8.pb.2.2.1 h8.pb.2.2.2.2.2) ?_ ?_ ?_ ?_ ?_ (may_free h8.fin hne ebeg ekind) (by rw [ego]; exact elast) ow, by simp; omega⟩
          · intro x o hx xb
            rw [upd_ne (ne_of_none hx h8.new.2.2)]
            have hq0 := ne_of_none hx h8.new.2.1
            exact SM _ _ (by rw [upd_ne hq0]; exact bs9 x o hx xb)
          · rw [upd_ne h8.df.2.1]
            exact SM _ _ (by rw [upd_ne h8.df.1]; exact h9p)
          · exact h9x.imp fun a b _ y => y.stay fun c zs hz => updT h11r (sameT SM (updT h9q hz))
          · rw [upd_ne h8.df.2.2, ego]
            exact SM _ _ (by rw [upd_same]; simp [nats])
          · rw [upd_same, ego, List.map_append]
            match wy, w3 with
            | 0, _ => rfl
            | 1, _ => rfl
            | 2, _ => rfl
        · refine and_i (x := decide ((wy : Int) < 7)) (y := decide ((0 : Int) ≤ num)) (fun Q q => ⟨_, rfl, _, _, rfl, rfl, _, rfl, q⟩) (fun Q q => ⟨_, rfl, _, _, rfl, rfl, _, rfl, q⟩) ?_
          refine ite2 (fun c2 => ?_) fun c2 => ?_
          · obtain ⟨n, rfl, hn⟩ : ∃ n : Nat, num = n ∧ n ∈ (goAll s0 ts).run := by
              rcases hnum with y | y
              · simp only [Bool.and_eq_true, decide_eq_true_eq] at c2
                omega
              · exact y
            have hq7 : H7 q = some (.lst (((goAll s0 ts).run.map fun n : Nat => (n : Int)).map V.int)) := by rw [← nats_int]; exact h7.hq
            have hix := List.idxOf_lt_length_of_mem hn
            have hget : (goAll s0 ts).run[(goAll s0 ts).run.idxOf n] = n := List.getElem_idxOf hix
            refine ⟨_, rfl, Or.inl ⟨rfl, _, SqL.of hq7⟩, _, rfl, q, (goAll s0 ts).run.map fun n : Nat => (n : Int), n, (goAll s0 ts).run.idxOf n, rfl, rfl, hq7, by rw [List.getElem?_map, List.getElem?_eq_getElem hix, hget]; rfl, fun m hm e => ?_, ?_⟩
            · rw [List.getElem?_map, List.getElem?_eq_getElem (by omega)] at e
              have e2 : ((goAll s0 ts).run[m]'(by omega)) = n := by
                have h : (((goAll s0 ts).run[m]'(by omega) : Nat) : Int) = (n : Int) := Option.some.inj e
                omega
              have h3 := List.pairwise_iff_getElem.mp gd.srr m _ (by omega) hix hm
              rw [hget, e2] at h3
              exact Nat.lt_irrefl _ h3
            · have ern : (((goAll s0 ts).run.map fun n : Nat => (n : Int)).eraseIdx ((goAll s0 ts).run.idxOf n)).map V.int = nats ((goAll s0 ts).run.erase n) := by
                rw [← map_eraseIdx, ← nats_int, nats_erase (srt_nodup gd.srr), (srt_nodup gd.srr).erase_eq_filter]
              rw [ern]
              have hp8 : upd H7 q (.lst (nats ((goAll s0 ts).run.erase n))) p = some (.lst xs) := by rw [upd_ne h7.df.1]; exact hp
              have hr8 : upd H7 q (.lst (nats ((goAll s0 ts).run.erase n))) r = some (.lst ((goAll s0 ts).kinds.map kindH)) := by rw [upd_ne h7.df.2.2.symm]; exact h7.hr
              have hq8 : upd H7 q (.lst (nats ((goAll s0 ts).run.erase n))) q = some (.lst (nats ((goAll s0 ts).run.erase n))) := upd_same
              have hx8 : All2 (TokAt K (upd H7 q (.lst (nats ((goAll s0 ts).run.erase n))))) xs ts := hxs.imp fun a b _ y => y.stay fun c zs hz => updT h7.hq hz
              have bg8 := h7.bg.beside (p := q) (o := .lst (nats ((goAll s0 ts).run.erase n))) h7.pb.2.1 h7.pb.2.2.2.2.1
              have bs8 : Bs H (upd H7 q (.lst (nats ((goAll s0 ts).run.erase n)))) b := fun x o hx xb => by rw [upd_ne (ne_of_none hx h7.new.2.1)]; exact h7.bs x o hx xb
              generalize upd H7 q (.lst (nats ((goAll s0 ts).run.erase n))) = H8 at hp8 hr8 hq8 hx8 bg8 bs8
              obtain ⟨kb, hkb⟩ : ∃ kb, (goAll s0 ts).kinds[n]? = some kb := ⟨_, List.getElem?_eq_getElem (gd.few' n hn)⟩
              have hcn : (goAll s0 ts).run.contains n = true := by simpa using hn
              -- a token with the number n behind the history
              have fini : ∀ (D : L2.St → Hp → Prop) (t : Tok) (v : V) (H9 : Hp), Same H8 H9 → TokAt K H9 v t → t.num? = some n → t.last = false → t.start? = none → t.isBegin = false → kindOk (goAll s0 ts) t = true → okW t →
                  (∀ H', HS K H H' b c p q r (ts ++ [t]) → D [] H') → D [] (upd H9 p (.lst (xs ++ [v]))) := by
                intro D t v H9 S89 hv en el es eb ek ow kk
                have ego : go (goAll s0 ts) t = ⟨(goAll s0 ts).run.erase n, (goAll s0 ts).kinds, ths0 (goAll s0 ts) t, (goAll s0 ts).len + 1, t.last⟩ := by unfold go; rw [es, en]
                have hp9 := S89 _ _ hp8
                refine kk _ (h7.step (xs := xs ++ [v]) ((bg8.same S89).beside h7.pb.1 h7.pb.2.2.2.1) (fun x o hx xb => ?_) upd_same ?_ ?_ ?_ (may_free h7.fin hne eb ek) (by rw [ego]; exact el) ow)
                · rw [upd_ne (ne_of_none hx h7.new.1)]
                  exact S89 _ _ (bs8 x o hx xb)
                · exact All2.app (hx8.imp fun a b _ y => y.stay fun c zs hz => updT hp9 (sameT S89 hz)) (All2.one (hv.stay fun c zs hz => updT hp9 hz))
                · rw [upd_ne h7.df.1.symm, ego]
                  exact S89 _ _ hq8
                · rw [upd_ne h7.df.2.1.symm, ego]
                  exact S89 _ _ hr8
              refine ⟨_, rfl, rfl, _, rfl, ?_⟩
              refine ite2 (fun c3 => ?_) fun c3 => ?_
              · refine ⟨_, rfl, Or.inl ⟨rfl, _, SqL.of hp8⟩, _, rfl, by show 2 ≤ sizeLine; decide, fun t1 n1 => ?_⟩
                have Sx1 := Same.new (o := .tup [V.str "dropped", V.int (n : Nat)]) n1
                refine ⟨p, xs, _, rfl, rfl, Sx1 _ _ hp8, small1000 (by omega), ?_⟩
                exact fini (fun _ H' => ∃ (ts' : List Tok) (v4 v5 v6 v7 : Option V), [some (V.ref b), some (V.ref p), some (V.ref q), some (V.ref r), some (V.int (0 + (i : Int))), some (V.int (wy : Nat)), some (V.int (n : Nat)), some (V.str z7)] = [some (.ref b), some (.ref p), some (.ref q), some (.ref r), v4, v5, v6, v7] ∧ HS K H H' b c p q r ts' ∧ ts'.length ≤ i + 1 + 1)
                  (.dropped n) (.ref t1) _ Sx1 ⟨t1, rfl, SqT.of upd_same⟩ rfl rfl rfl rfl (by simpa [kindOk] using hn) (fun y hy => by simp [Tok.words] at hy) fun H' hh' => ⟨_, _, _, _, _, rfl, hh', by simp; omega⟩
              · have hk8 : ((goAll s0 ts).kinds.map kindH)[n]? = some (kindH kb) := by rw [List.getElem?_map, hkb]; rfl
                refine ⟨_, rfl, Or.inl ⟨rfl, _, SqL.of hp8⟩, _, rfl, _, rfl, r, _, _, _, rfl, rfl, SqL.of hr8, atI_nat hk8, _, rfl, by show 2 ≤ sizeLine; decide, fun u1 n1 => ⟨_, rfl, by show 1 ≤ sizeLine; decide, fun u2 n2 => ?_⟩⟩
                have Sx1 := Same.new (o := .tup [kindH kb, V.int (n : Nat)]) n1
                have Sx2 := Same.new (o := .tup [V.str z7]) n2
                refine ⟨u1, u2, _, _, rfl, rfl, SqT.of (Sx2 _ _ upd_same), SqT.of upd_same, by simp, by show 3 ≤ sizeLine; decide, fun z => by simp at z, fun _ u3 n3 => ?_⟩
                have Sx3 := Same.new (o := .tup ([kindH kb, V.int (n : Nat)] ++ [V.str z7])) n3
                have S89 := (Sx1.trans Sx2).trans Sx3
                have h3 : upd (upd (upd H8 u1 (.tup [kindH kb, V.int (n : Nat)])) u2 (.tup [V.str z7])) u3 (.tup ([kindH kb, V.int (n : Nat)] ++ [V.str z7])) u3 = some (.tup [kindH kb, V.int (n : Nat), V.str z7]) := upd_same
                generalize upd (upd (upd H8 u1 (.tup [kindH kb, V.int (n : Nat)])) u2 (.tup [V.str z7])) u3 (.tup ([kindH kb, V.int (n : Nat)] ++ [V.str z7])) = H9 at S89 h3
                refine ⟨_, rfl, _, rfl, r, _, _, _, rfl, rfl, SqL.of (S89 _ _ hr8), atI_nat hk8, rfl, .inr ⟨_, rfl, _, _, rfl, rfl, ?_⟩⟩
                have ek : decide (kindH kb = V.str "answer") = kb := by cases kb <;> decide +kernel
                have elen : (2 + (if decide (kindH kb = V.str "answer") = true then (1 : Int) else 0)) = if kb then 3 else 2 := by
                  rw [ek]
                  cases kb <;> rfl
                have hp9 := S89 _ _ hp8
                refine ⟨_, rfl, u3, _, rfl, SqT.of h3, fun wh => ?_, fun nw u4 n4 => ?_⟩
                · have kt : kb = true := by
                    cases kb with
                    | true => rfl
                    | false =>
                      have w2 := wh.2
                      rw [elen] at w2
                      simp [HT.sIx] at w2
                  subst kt
                  refine ⟨p, xs, _, rfl, rfl, hp9, small1000 lx1, ?_⟩
                  exact fini (fun _ H' => ∃ (ts' : List Tok) (v4 v5 v6 v7 : Option V), [some (V.ref b), some (V.ref p), some (V.ref q), some (V.ref r), some (V.int (0 + (i : Int))), some (V.int (wy : Nat)), some (V.int (n : Nat)), some (V.str z7)] = [some (.ref b), some (.ref p), some (.ref q), some (.ref r), v4, v5, v6, v7] ∧ HS K H H' b c p q r ts' ∧ ts'.length ≤ i + 1 + 1)
                    (.answer n z7) (.ref u3) _ S89 ⟨u3, rfl, SqT.of h3⟩ rfl rfl rfl rfl (by simp only [kindOk, hcn, hkb]; rfl) (fun y hy => by simp [Tok.words] at hy; rw [hy]; exact hz7) fun H' hh' => ⟨_, _, _, _, _, rfl, hh', by rw [List.length_append]; exact lts2⟩
                · have kf : kb = false := by
                    cases kb with
                    | false => rfl
                    | true =>
                      refine absurd ⟨rfl, ?_⟩ nw
                      rw [elen]
                      simp [HT.sIx]
                  subst kf
                  have ecut : cutV [kindH false, V.int (n : Nat), V.str z7] none (some (2 + (if decide (kindH false = V.str "answer") = true then (1 : Int) else 0))) = [V.str "rang", V.int (n : Nat)] := by
                    rw [elen]
                    simp [cutV, HT.sIx, kindH]
                  rw [ecut]
                  have Sx4 := Same.new (o := .tup [V.str "rang", V.int (n : Nat)]) n4
                  refine ⟨p, xs, _, rfl, rfl, Sx4 _ _ hp9, small1000 lx1, ?_⟩
                  exact fini (fun _ H' => ∃ (ts' : List Tok) (v4 v5 v6 v7 : Option V), [some (V.ref b), some (V.ref p), some (V.ref q), some (V.ref r), some (V.int (0 + (i : Int))), some (V.int (wy : Nat)), some (V.int (n : Nat)), some (V.str z7)] = [some (.ref b), some (.ref p), some (.ref q), some (.ref r), v4, v5, v6, v7] ∧ HS K H H' b c p q r ts' ∧ ts'.length ≤ i + 1 + 1)
                    (.rang n) (.ref u4) _ (S89.trans Sx4) ⟨u4, rfl, SqT.of upd_same⟩ rfl rfl rfl rfl (by simp only [kindOk, hcn, hkb]; rfl) (fun y hy => by simp [Tok.words] at hy) fun H' hh' => ⟨_, _, _, _, _, rfl, hh', by rw [List.length_append]; exact lts2⟩
          · have w3 : wy % 3 < 3 := Nat.mod_lt _ (by decide)
            refine ⟨_, rfl, Or.inl ⟨rfl, _, SqL.of hp⟩, _, rfl, by show 3 ≤ sizeLine; decide, fun t1 n1 => ⟨_, rfl, by show 2 ≤ sizeLine; decide, fun t2 n2 => ⟨_, rfl, by show 2 ≤ sizeLine; decide, fun t3 n3 => ⟨by show 3 ≤ sizeLine; decide, fun L nL => ?_⟩⟩⟩⟩
            have Sx1 := Same.new (o := .tup [V.str "signal", V.str z7, V.str "a"]) n1
            have Sx2 := Same.new (o := .tup [V.str "noted", V.str z7]) n2
            have Sx3 := Same.new (o := .tup [V.str "marked", V.str z7]) n3
            have SL := Same.new (o := .lst [V.ref t1, V.ref t2, V.ref t3]) nL
            have S4 := ((Sx1.trans Sx2).trans Sx3).trans SL
            have T1 : TokAt K _ (.ref t1) (.signal z7 "a") := ⟨t1, rfl, SqT.of (((Sx2.trans Sx3).trans SL) _ _ upd_same)⟩
            have T2 : TokAt K _ (.ref t2) (.noted z7) := ⟨t2, rfl, SqT.of ((Sx3.trans SL) _ _ upd_same)⟩
            have T3 : TokAt K _ (.ref t3) (.marked z7) := ⟨t3, rfl, SqT.of (SL _ _ upd_same)⟩
            have hL : upd (upd (upd (upd H7 t1 (.tup [V.str "signal", V.str z7, V.str "a"])) t2 (.tup [V.str "noted", V.str z7])) t3 (.tup [V.str "marked", V.str z7])) L (.lst [V.ref t1, V.ref t2, V.ref t3]) L = some (.lst [V.ref t1, V.ref t2, V.ref t3]) := upd_same
            have h8 := h7.same S4
            have hp8 := S4 _ _ hp
            have hxs8 : All2 (TokAt K _) xs ts := hxs.imp fun x y _ q => q.same S4
            generalize upd (upd (upd (upd H7 t1 (.tup [V.str "signal", V.str z7, V.str "a"])) t2 (.tup [V.str "noted", V.str z7])) t3 (.tup [V.str "marked", V.str z7])) L (.lst [V.ref t1, V.ref t2, V.ref t3]) = H8 at h8 hp8 T1 T2 T3 hL hxs8
            have em : ((wy : Int)).fmod 3 = ((wy % 3 : Nat) : Int) := by
              rw [Int.fmod_eq_emod_of_nonneg _ (by decide)]
              omega
            refine ⟨_, rfl, _, _, rfl, rfl, (by show (3 : Int) ≠ 0; decide), L, _, _, _, rfl, rfl, SqL.of hL, (by rw [em]; exact atI_nat (three w3)), p, xs, _, rfl, rfl, hp8, small1000 (by omega), ?_⟩
            have hv : TokAt K H8 (if wy % 3 = 0 then V.ref t1 else if wy % 3 = 1 then V.ref t2 else V.ref t3) (tok3 (wy % 3) z7) := by
              unfold tok3
              split
              · exact T1
              · split
                · exact T2
                · exact T3
            have pr : (tok3 (wy % 3) z7).start? = none ∧ (tok3 (wy % 3) z7).num? = none ∧ (tok3 (wy % 3) z7).last = false ∧ (tok3 (wy % 3) z7).isBegin = false ∧ kindOk (goAll s0 ts) (tok3 (wy % 3) z7) = true := by
              unfold tok3
              split
              · exact ⟨rfl, rfl, rfl, rfl, rfl⟩
              · split <;> exact ⟨rfl, rfl, rfl, rfl, rfl⟩
            have ego : go (goAll s0 ts) (tok3 (wy % 3) z7) = ⟨(goAll s0 ts).run, (goAll s0 ts).kinds, ths0 (goAll s0 ts) (tok3 (wy % 3) z7), (goAll s0 ts).len + 1, (tok3 (wy % 3) z7).last⟩ := by unfold go; rw [pr.1, pr.2.1]
            exact ⟨ts ++ [tok3 (wy % 3) z7], _, _, _, _, rfl, h8.add hp8 hxs8 hv (by rw [ego]) (by rw [ego]) (may_free h8.fin hne pr.2.2.2.1 pr.2.2.2.2) (by rw [ego]; exact pr.2.2.1) (ow3 _), by simp; omega⟩
    · obtain ⟨ts, v4, v5, v6, v7, rfl, h4, lts⟩ := y
      refine ⟨_, rfl, b, c, 3, rfl, h4.bg, by decide, fun d3 H5 hd3 hb5 ho5 => ?_⟩
      have h5 := h4.to hb5 ho5.bs
      obtain ⟨xs, hp, hxs⟩ := h5.hp
      have lxs := hxs.len
      refine ⟨rfl, _, rfl, ?_⟩
      refine ite2 (fun c1 => ?_) fun c1 => ?_
      · refine ⟨_, rfl, Or.inl ⟨rfl, _, SqL.of hp⟩, by show 2 ≤ sizeLine; decide, fun t1 n1 => ?_⟩
        have Sx1 := Same.new (o := .tup [V.str "ended", V.str "x"]) n1
        have hp6 := Sx1 _ _ hp
        refine ⟨p, xs, _, rfl, rfl, hp6, small1000 (by omega), _, rfl, ?_⟩
        have hne : (goAll s0 ts).len ≠ 0 := by
          rw [goAll_len]
          exact fun y => h5.ne (List.length_eq_zero_iff.mp (by simp [s0] at y; simpa using y))
        refine k p _ (ts ++ [.ended "x"]) _ ((hb5.same Sx1).beside h5.pb.1 h5.pb.2.2.2.1) (fun x o hx xb => ?_) h5.new.1 upd_same ?_ (by simp) ?_ ?_ (by simp; omega)
        · rw [upd_ne (ne_of_none hx h5.new.1)]
          exact Sx1 _ _ (h5.bs x o hx xb)
        · exact All2.app (hxs.imp fun a b _ y => y.stay fun c zs hz => updT hp6 (sameT Sx1 hz)) (All2.one ⟨t1, rfl, updT hp6 (SqT.of upd_same)⟩)
        · rw [valid_app, h5.vd]
          have : may (goAll s0 ts) (.ended "x") = true := may_free h5.fin hne rfl rfl
          simp [valid, this]
        · intro t ht
          rcases List.mem_append.mp ht with y | y
          · exact h5.ow t y
          · rw [List.mem_singleton.mp y]
            intro z hz
            rw [List.mem_singleton.mp hz]
            exact isW_x
      · refine ⟨_, rfl, ?_⟩
        exact k p xs ts H5 h5.bg h5.bs h5.new.1 hp hxs h5.ne h5.vd h5.ow (by omega)
end
end K13

set_option Elab.async false
set_option maxRecDepth 100000
set_option maxHeartbeats 4000000
set_option linter.all false
namespace K13
open PySem PySem.Spec PyProof.Rows L2
theorem in_outer (t : Tok) : inV (.str t.head) [.str "begin", .str "answer", .str "rang", .str "signal"] = t.outer := by
  cases t <;> simp only [Tok.head, Tok.outer] <;> decide +kernel
theorem in_num (t : Tok) : inV (.str t.head) [.str "answer", .str "rang", .str "dropped"] = t.num?.isSome := by
  cases t <;> simp only [Tok.head, Tok.num?, Option.isSome] <;> decide +kernel
theorem in_start (t : Tok) : inV (.str t.head) [.str "asked", .str "set"] = t.start?.isSome := by
  cases t <;> simp only [Tok.head, Tok.start?, Option.isSome] <;> decide +kernel
theorem age_head (s : S) (t : Tok) : (age s t).head = t.head := by
  unfold age
  split
  · cases t <;> rfl
  · rfl
/-- the turns that are made, with the open things and those that have an age -/
structure TI (K : PySem.W.Frag) (H0 H : Hp) (p q g : Addr) (rs : List Addr) (run ths : List Nat) (acc : List (List Tok)) : Prop where
  sm : Same H0 H
  fr : Fresh H0 p rs
  nq : H0 q = none
  ng : H0 g = none
  df : p ≠ q ∧ p ≠ g ∧ q ≠ g ∧ q ∉ rs ∧ g ∉ rs
  hq : H q = some (.lst (nats run))
  hg : H g = some (.lst (nats ths))
  ta : TurnsAt K H p rs acc
theorem TI.same {K : PySem.W.Frag} {H0 H H' : Hp} {p q g : Addr} {rs : List Addr} {run ths : List Nat} {acc : List (List Tok)} (h : TI K H0 H p q g rs run ths acc) (e : Same H H') : TI K H0 H' p q g rs run ths acc :=
  ⟨h.sm.trans e, h.fr, h.nq, h.ng, h.df, e _ _ h.hq, e _ _ h.hg, h.ta.same e⟩
/-- one of the two lists of numbers changes -/
theorem TI.run {K : PySem.W.Frag} {H0 H : Hp} {p q g : Addr} {rs : List Addr} {run ths run' : List Nat} {acc : List (List Tok)} (h : TI K H0 H p q g rs run ths acc) : TI K H0 (upd H q (.lst (nats run'))) p q g rs run' ths acc :=
  ⟨fun b o hb => by rw [upd_ne (ne_of_none hb h.nq)]; exact h.sm b o hb, h.fr, h.nq, h.ng, h.df, upd_same, by rw [upd_ne h.df.2.2.1.symm]; exact h.hg, h.ta.beside h.hq h.df.1 fun r hr z => h.df.2.2.2.1 (z ▸ hr)⟩
theorem TI.ths {K : PySem.W.Frag} {H0 H : Hp} {p q g : Addr} {rs : List Addr} {run ths ths' : List Nat} {acc : List (List Tok)} (h : TI K H0 H p q g rs run ths acc) : TI K H0 (upd H g (.lst (nats ths'))) p q g rs run ths' acc :=
  ⟨fun b o hb => by rw [upd_ne (ne_of_none hb h.ng)]; exact h.sm b o hb, h.fr, h.nq, h.ng, h.df, by rw [upd_ne h.df.2.2.1]; exact h.hq, upd_same, h.ta.beside h.hg h.df.2.1 fun r hr z => h.df.2.2.2.2 (z ▸ hr)⟩
/-- other things with an age, in a list of their own -/
theorem TI.new {K : PySem.W.Frag} {H0 H : Hp} {p q g g' : Addr} {rs : List Addr} {run ths ths' : List Nat} {acc : List (List Tok)} (h : TI K H0 H p q g rs run ths acc) (n : H g' = none) : TI K H0 (upd H g' (.lst (nats ths'))) p q g' rs run ths' acc := by
  have e := Same.new (o := .lst (nats ths')) n
  refine ⟨h.sm.trans e, h.fr, h.nq, h.sm.free n, ⟨h.df.1, ne_of_none h.ta.1 n, ne_of_none h.hq n, h.df.2.2.2.1, fun z => ?_⟩, e _ _ h.hq, upd_same, h.ta.same e⟩
  obtain ⟨xs, y⟩ := h.ta.2.tracked z
  rw [y] at n
  cases n
/-- a new, empty turn -/
theorem TI.turn {K : PySem.W.Frag} {H0 H : Hp} {p q g r : Addr} {rs : List Addr} {run ths : List Nat} {acc : List (List Tok)} (h : TI K H0 H p q g rs run ths acc) (n : H r = none) :
    TI K H0 (upd (upd H r (.lst [])) p (.lst (rs.map V.ref ++ [.ref r]))) p q g (rs ++ [r]) run ths (acc ++ [[]]) := by
  have pr := ne_of_none h.ta.1 n
  have qr := ne_of_none h.hq n
  have gr := ne_of_none h.hg n
  refine ⟨fun b o hb => ?_, ⟨h.fr.1, fun x hx => ?_, fun y => ?_, List.nodup_append.mpr ⟨h.fr.2.2.2, by simp, fun x hx y hy z => ?_⟩⟩, h.nq, h.ng, ⟨h.df.1, h.df.2.1, h.df.2.2.1, fun y => ?_, fun y => ?_⟩, ?_, ?_, turns_new h.ta h.fr.2.2.1 n⟩
  · rw [upd_ne (ne_of_none hb h.fr.1), upd_ne (ne_of_none (h.sm b o hb) n)]
    exact h.sm b o hb
  · rcases List.mem_append.mp hx with y | y
    · exact h.fr.2.1 x y
    · rw [List.mem_singleton.mp y]
      exact h.sm.free n
  · rcases List.mem_append.mp y with y | y
    · exact h.fr.2.2.1 y
    · exact pr (List.mem_singleton.mp y)
  · rw [List.mem_singleton.mp hy] at z
    obtain ⟨xs, w⟩ := h.ta.2.tracked hx
    exact ne_of_none w n z
  · rcases List.mem_append.mp y with y | y
    · exact h.df.2.2.2.1 y
    · exact qr (List.mem_singleton.mp y)
  · rcases List.mem_append.mp y with y | y
    · exact h.df.2.2.2.2 y
    · exact gr (List.mem_singleton.mp y)
  · rw [upd_ne h.df.1.symm, upd_ne qr]
    exact h.hq
  · rw [upd_ne h.df.2.1.symm, upd_ne gr]
    exact h.hg
/-- a token for the last turn -/
theorem TI.tok {K : PySem.W.Frag} {H0 H : Hp} {p q g : Addr} {rs : List Addr} {run ths : List Nat} {acc0 : List (List Tok)} {l : List Tok} {v : V} {t : Tok} (h : TI K H0 H p q g rs run ths (acc0 ++ [l])) (hv : TokAt K H v t) :
    ∃ rs0 r ys, rs = rs0 ++ [r] ∧ H r = some (.lst ys) ∧ ys.length = l.length ∧ TI K H0 (upd H r (.lst (ys ++ [v]))) p q g rs run ths (acc0 ++ [l ++ [t]]) := by
  obtain ⟨rs0, r, ys, e, hr, _, hys⟩ := turns_last h.ta
  subst e
  have qr : q ≠ r := fun z => h.df.2.2.2.1 (by rw [z]; simp)
  have gr : g ≠ r := fun z => h.df.2.2.2.2 (by rw [z]; simp)
  exact ⟨rs0, r, ys, rfl, hr, hys.len, fun b o hb => by rw [upd_ne (ne_of_none hb (h.fr.2.1 r (by simp)))]; exact h.sm b o hb, h.fr, h.nq, h.ng, h.df, by rw [upd_ne qr]; exact h.hq, by rw [upd_ne gr]; exact h.hg, turns_add h.ta h.fr.2.2.1 h.fr.2.2.2 hr hv⟩
def spTurns (K : PySem.W.Frag) : Sp := fun vs H Q _ => ∃ (h : Addr) (xs : List V) (ts : List Tok), vs = [.ref h] ∧ SqL K H h xs ∧ All2 (TokAt K H) xs ts ∧ ts ≠ [] ∧ valid s0 ts = true ∧ ts.length ≤ 400 ∧
  ∀ (H' : Hp) (p : Addr) (rs : List Addr), Same H H' → Fresh H p rs → TurnsAt K H' p rs (cutAll (ageAll s0 ts)) → Q (.ref p) H'
section
variable {P : Program} {w : World} {K : PySem.W.Frag} {mg : Str → Option Value} {base : Heap}
theorem ok_turns {f : Addr} {fd : FuncData} (F : FnP K "_law_turns" "_law_turns" s__law_turns f fd) (T : Tx w K mg) : FnOk P w K mg base CX0 1 f fd p__law_turns (spTurns K) := by
  refine F.ok sc__law_turns (fun vs H Q E h => ?_) (fun cdv A outer s H vs Q E hr h => ?_)
  · obtain ⟨h, xs, ts, rfl, _⟩ := h
    rfl
  · obtain ⟨h, xs, ts, rfl, hl, hts, ne, vd, few, k⟩ := h
    have el := hts.len
    refine ⟨_, PSs.nox (pss_cons (ps_set (i := 1) sc__law_turns.nd rfl (.inl rfl) (pe_lst pa_nil))
      (pss_cons (ps_set (i := 2) sc__law_turns.nd rfl (.inl rfl) (pe_lst pa_nil))
      (pss_cons (ps_set (i := 3) sc__law_turns.nd rfl (.inl rfl) (pe_lst pa_nil))
      (pss_cons (ps_set (i := 4) sc__law_turns.nd rfl (.inl rfl) pe_int)
      (pss_cons (ps_for PassesOwn.never rfl (pi_list (pv 0)) (pg_name (i := 5) sc__law_turns.nd rfl (.inl rfl)) (C8.pss_cut (ps_if (pt_cmpR op_in_seq (pe_ix ix_tup (pv 5) pe_int (fun _ _ => rfl)) (pe_tup (pa_cons pe_str (pa_cons pe_str (pa_cons pe_str (pa_cons pe_str pa_nil))))) (by rfl)) (pss_cons (ps_expr (pe_bm PySem.F.plainAttrs_list PySem.F.slot_list_append PySem.F.type_list_append mt_append (pv 1) (pa_cons (pe_lst pa_nil) pa_nil)))
      (pss_one (ps_set (i := 3) sc__law_turns.nd rfl (.inl rfl) (pe_callTy call_list_of (by rfl) T.b_list (by decide +kernel) (pa_cons (pv 2) pa_nil))))) pss_nil)
      (C8.pss_cut (ps_if (pt_cmpR op_in_seq (pe_ix ix_tup (pv 5) pe_int (fun _ _ => rfl)) (pe_tup (pa_cons pe_str (pa_cons pe_str (pa_cons pe_str pa_nil)))) (by rfl)) (pss_cons (ps_expr (pe_bm PySem.F.plainAttrs_list PySem.F.slot_list_remove PySem.F.type_list_remove mt_remove (pv 2) (pa_cons (pe_ix ix_tup (pv 5) pe_int (fun _ _ => rfl)) pa_nil)))
      (pss_one (ps_set (i := 5) sc__law_turns.nd rfl (.inl rfl) (pe_op op_catT (pe_tup (pa_cons (pe_ix ix_tup (pv 5) pe_int (fun _ _ => rfl)) (pa_cons (pe_bm PySem.F.plainAttrs_list PySem.F.slot_list_index PySem.F.type_list_index mt_index (pv 3) (pa_cons (pe_ix ix_tup (pv 5) pe_int (fun _ _ => rfl)) pa_nil)) pa_nil))) (pe_slice sl_tup (pv 5) (po_some pe_int) po_none))))) pss_nil)
      (C8.pss_cut (ps_if (pt_cmpR op_in_seq (pe_ix ix_tup (pv 5) pe_int (fun _ _ => rfl)) (pe_tup (pa_cons pe_str (pa_cons pe_str pa_nil))) (by rfl)) (pss_cons (ps_expr (pe_bm PySem.F.plainAttrs_list PySem.F.slot_list_append PySem.F.type_list_append mt_append (pv 3) (pa_cons (pv 4) pa_nil)))
      (pss_cons (ps_expr (pe_bm PySem.F.plainAttrs_list PySem.F.slot_list_append PySem.F.type_list_append mt_append (pv 2) (pa_cons (pv 4) pa_nil)))
      (pss_one (ps_set (i := 4) sc__law_turns.nd rfl (.inl rfl) (pe_op op_add (pv 4) pe_int))))) pss_nil)
      (pss_one (ps_expr (pe_bm PySem.F.plainAttrs_list PySem.F.slot_list_append PySem.F.type_list_append mt_append (pe_ix ix_list (pv 1) (pe_op op_sub (pe_callB call_len_seq (by rfl) T.b_len PySem.boot_len (pa_cons (pv 1) pa_nil)) pe_int) (fun _ _ => rfl)) (pa_cons (pv 5) pa_nil))))))))
      (pss_one (ps_ret (pv 1)))))))), ?_⟩
    refine ⟨by show 0 ≤ sizeLine; decide, fun p np => ⟨by show 0 ≤ sizeLine; decide, fun q nq => ⟨by show 0 ≤ sizeLine; decide, fun g ng => ?_⟩⟩⟩
    have pq : p ≠ q := fun y => by rw [← y, upd_same] at nq; cases nq
    have pg : p ≠ g := fun y => by rw [← y, upd_ne pq, upd_same] at ng; cases ng
    have qg : q ≠ g := fun y => by rw [← y, upd_same] at ng; cases ng
    have S0 : Same H (upd (upd (upd H p (.lst [])) q (.lst [])) g (.lst [])) := ((Same.new np).trans (Same.new nq)).trans (Same.new ng)
    have h0 : TI K H (upd (upd (upd H p (.lst [])) q (.lst [])) g (.lst [])) p q g [] [] [] [] := by
      refine ⟨S0, ⟨np, by simp, by simp, List.nodup_nil⟩, none1 nq, none1 (none1 ng), ⟨pq, pg, qg, by simp, by simp⟩, ?_, upd_same, ?_, .nil⟩
      · rw [upd_ne qg, upd_same]
        rfl
      · rw [upd_ne pg, upd_ne pq, upd_same]
        rfl
    generalize upd (upd (upd H p (.lst [])) q (.lst [])) g (.lst []) = H1 at h0
    refine ⟨_, rfl, h, rfl, ⟨xs, h0.sm.seq hl⟩, ?_⟩
    refine for_list (K := K) (a := h) (xs := xs) (fun i σ H2 => ∃ (g : Addr) (rs : List Addr) (v5 : Option V), σ = [some (.ref h), some (.ref p), some (.ref q), some (.ref g), some (.int ((goAll s0 (ts.take i)).kinds.length : Nat)), v5] ∧
      TI K H H2 p q g rs (goAll s0 (ts.take i)).run (goAll s0 (ts.take i)).ths ((ageAll s0 (ts.take i)).foldl cutOn [])) ⟨g, [], none, rfl, h0⟩ (fun i σ H2 _ y => ?_) (fun i x σ H2 hi y => ?_) (fun σ H2 y => ?_)
    · obtain ⟨_, _, _, _, t⟩ := y
      exact t.sm.seq hl
    · obtain ⟨g, rs, v5, rfl, h2⟩ := y
      obtain ⟨t, ht, hv0⟩ := hts.get hi
      have hil : i < ts.length := (List.getElem?_eq_some_iff.mp ht).1
      have etk := take_more ht
      have gd := good_all (ts.take i) good0
      have lk := kinds_len (ts.take i) s0
      have lk0 : s0.kinds.length = 0 := rfl
      have bl := (fold_few (ageAll s0 (ts.take i))).1
      have bn := (fold_few (ageAll s0 (ts.take i))).2
      rw [ageAll_len] at bl bn
      have ltk : (ts.take i).length ≤ 400 := by rw [List.length_take]; omega
      have egt : goAll s0 (ts.take (i + 1)) = go (goAll s0 (ts.take i)) t := by rw [etk, goAll_app]; rfl
      have eat : (ageAll s0 (ts.take (i + 1))).foldl cutOn [] = cutOn ((ageAll s0 (ts.take i)).foldl cutOn []) (age (goAll s0 (ts.take i)) t) := by
        rw [etk, ageAll_app, List.foldl_append]
        rfl
      have vt : valid s0 (ts.take i ++ ts.drop i) = true := by rw [List.take_append_drop]; exact vd
      have hdrop : ts.drop i = t :: ts.drop (i + 1) := by
        rw [List.drop_eq_getElem_cons hil]
        congr 1
        exact (List.getElem?_eq_some_iff.mp ht).2
      rw [valid_app, hdrop] at vt
      simp only [Bool.and_eq_true, valid] at vt
      have hmay := vt.2.1
      have hnb : t.outer = false → (ageAll s0 (ts.take i)).foldl cutOn [] ≠ [] := fun o => by
        refine fold_ne _ fun z => not_begin hmay o ?_
        rw [goAll_len]
        have : (ageAll s0 (ts.take i)).length = 0 := by rw [z]; rfl
        rw [ageAll_len] at this
        rw [this]
        rfl
      rw [egt, eat]
      generalize (ageAll s0 (ts.take i)).foldl cutOn [] = acc at h2 bl bn hnb
      generalize goAll s0 (ts.take i) = st at h2 gd lk hmay
      obtain ⟨a, rfl, ha0⟩ := hv0
      have ha2 := sameT h2.sm ha0
      -- a turn begins
      refine ⟨fun σ' H3 => ∃ (g' : Addr) (rs' : List Addr) (acc0 : List (List Tok)) (l : List Tok), σ' = [some (.ref h), some (.ref p), some (.ref q), some (.ref g'), some (.int (st.kinds.length : Nat)), some (.ref a)] ∧
        TI K H H3 p q g' rs' st.run (ths0 st t) (acc0 ++ [l]) ∧ acc0 ++ [l ++ [age st t]] = cutOn acc (age st t) ∧ l.length ≤ 400 ∧ (acc0 ++ [l]).length ≤ 401, ?_, ?_⟩
      · refine ⟨_, rfl, a, _, _, .str t.head, rfl, rfl, ha2, at0, by show 4 ≤ sizeLine; decide, fun e ne => ⟨e, _, rfl, .inr (SqT.of upd_same), rfl, rfl, _, rfl, ?_⟩⟩
        have Se := Same.new (o := .tup [V.str "begin", V.str "answer", V.str "rang", V.str "signal"]) ne
        have h3 := h2.same Se
        generalize upd H2 e (.tup [V.str "begin", V.str "answer", V.str "rang", V.str "signal"]) = H3 at h3
        cases o : t.outer with
        | true =>
          refine iteT' (by show inV _ _ = true; rw [in_outer, o]) ?_
          have lrs : rs.length = acc.length := h3.ta.2.len
          refine ⟨_, rfl, Or.inl ⟨rfl, _, SqL.of h3.ta.1⟩, by show 0 ≤ sizeLine; decide, fun r nr => ?_⟩
          have pr := ne_of_none h3.ta.1 nr
          refine ⟨p, _, .ref r, rfl, rfl, by rw [upd_ne pr]; exact h3.ta.1, small1000 (by rw [List.length_map]; omega), ?_⟩
          have h4 := h3.turn nr
          refine ⟨_, rfl, q, _, rfl, .inl (SqL.of h4.hq), fun g' ng' => ?_⟩
          refine ⟨g', rs ++ [r], acc, [], rfl, by rw [show ths0 st t = st.run by simp [ths0, o]]; exact h4.new ng', ?_, by decide, by simp; omega⟩
          have := age_outer st t
          simp [cutOn, this, o]
        | false =>
          refine iteF' (by show inV _ _ = false; rw [in_outer, o]) ?_
          obtain ⟨acc0, l, ea⟩ : ∃ acc0 l, acc = acc0 ++ [l] := by
            rcases List.eq_nil_or_concat acc with e | ⟨l, a, e⟩
            · exact absurd e (hnb o)
            · exact ⟨l, a, by rw [e, List.concat_eq_append]⟩
          subst ea
          refine ⟨g, rs, acc0, l, rfl, by rw [show ths0 st t = st.ths by simp [ths0, o]]; exact h3, ?_, ?_, by omega⟩
          · have := age_outer st t
            simp [cutOn, this, o]
          · have := bn l (by simp)
            omega
      · rintro σ' H3 ⟨g', rs', acc0, l, rfl, h3, ecut, ll, lacc⟩
        have ha3 := sameT h3.sm ha0
        obtain ⟨t1, t2, t3⟩ := gd.ths0 t
        have lths : (ths0 st t).length ≤ 400 := by
          have := srt_few t1 t3
          omega
        have lrun : st.run.length ≤ 400 := by
          have := srt_few gd.srr gd.few'
          omega
        -- a thing is no longer open
        refine ⟨fun σ' H4 => ∃ (u : V) (run' : List Nat), σ' = [some (.ref h), some (.ref p), some (.ref q), some (.ref g'), some (.int (st.kinds.length : Nat)), some u] ∧
          TI K H H4 p q g' rs' run' (ths0 st t) (acc0 ++ [l]) ∧ TokAt K H4 u (age st t) ∧ run' = (match t.num? with | some n => st.run.erase n | none => st.run), ?_, ?_⟩
        · refine ⟨_, rfl, a, _, _, .str t.head, rfl, rfl, ha3, at0, by show 3 ≤ sizeLine; decide, fun e ne => ⟨e, _, rfl, .inr (SqT.of upd_same), rfl, rfl, _, rfl, ?_⟩⟩
          have Se := Same.new (o := .tup [V.str "answer", V.str "rang", V.str "dropped"]) ne
          have h4 := h3.same Se
          have ha4 := sameT Se ha3
          generalize upd H3 e (.tup [V.str "answer", V.str "rang", V.str "dropped"]) = H4 at h4 ha4
          cases en : t.num? with
          | none =>
            refine iteF' (by show inV _ _ = false; rw [in_num, en]; rfl) ?_
            refine ⟨.ref a, st.run, rfl, h4, ⟨a, rfl, ?_⟩, rfl⟩
            have : age st t = t := by unfold age; rw [en]
            rw [this]
            exact ha4
          | some n =>
            refine iteT' (by show inV _ _ = true; rw [in_num, en]; rfl) ?_
            have hv4 : SqT K H4 a (.str t.head :: .int n :: tail2 t) := by rw [← vals_num en]; exact ha4
            have hn : n ∈ st.run := kind_run en (may_kind hmay).1
            have hix := List.idxOf_lt_length_of_mem hn
            have hget : st.run[st.run.idxOf n] = n := List.getElem_idxOf hix
            have hq4 : H4 q = some (.lst ((st.run.map fun n : Nat => (n : Int)).map V.int)) := by rw [← nats_int]; exact h4.hq
            refine ⟨_, rfl, Or.inl ⟨rfl, _, SqL.of hq4⟩, _, rfl, a, _, _, .int n, rfl, rfl, hv4, at1, q, st.run.map fun n : Nat => (n : Int), n, st.run.idxOf n, rfl, rfl, hq4, by rw [List.getElem?_map, List.getElem?_eq_getElem hix, hget]; rfl, fun m hm e => ?_, ?_⟩
            · rw [List.getElem?_map, List.getElem?_eq_getElem (by omega)] at e
              have e2 : (st.run[m]'(by omega)) = n := by
                have h : ((st.run[m]'(by omega) : Nat) : Int) = (n : Int) := Option.some.inj e
                omega
              have h3 := List.pairwise_iff_getElem.mp gd.srr m _ (by omega) hix hm
              rw [hget, e2] at h3
              exact Nat.lt_irrefl _ h3
            · have ern : ((st.run.map fun n : Nat => (n : Int)).eraseIdx (st.run.idxOf n)).map V.int = nats (st.run.erase n) := by
                rw [← map_eraseIdx, ← nats_int, nats_erase (srt_nodup gd.srr), (srt_nodup gd.srr).erase_eq_filter]
              rw [ern]
              have h5 := h4.run (run' := st.run.erase n)
              have hv5 : SqT K (upd H4 q (.lst (nats (st.run.erase n)))) a (.str t.head :: .int n :: tail2 t) := updT h4.hq hv4
              generalize upd H4 q (.lst (nats (st.run.erase n))) = H5 at h5 hv5
              have hnt := t2 n hn
              have hixt := List.idxOf_lt_length_of_mem hnt
              have hgt : (ths0 st t)[(ths0 st t).idxOf n] = n := List.getElem_idxOf hixt
              refine ⟨_, rfl, a, _, _, .str t.head, rfl, rfl, hv5, at0, _, rfl, Or.inl ⟨rfl, _, SqL.of h5.hg⟩, _, rfl, a, _, _, .int n, rfl, rfl, hv5, at1, g', nats (ths0 st t), .int n, (ths0 st t).idxOf n, .int n, rfl, rfl, SqL.of h5.hg, rfl, ?_, ?_, ?_, ?_, ?_⟩
              · rw [List.all_map]
                simp [flatV]
              · rw [List.getElem?_map, List.getElem?_eq_getElem hixt, hgt]
                rfl
              · simp [eqV]
              · intro m z' hm hz'
                obtain ⟨n', hn', rfl⟩ := nats_get hz'
                have hml : m < (ths0 st t).length := by omega
                rw [List.getElem?_eq_getElem hml] at hn'
                have lt := List.pairwise_iff_getElem.mp t1 m _ hml hixt hm
                rw [hgt] at lt
                have e1 := Option.some.inj hn'
                rw [e1] at lt
                have : ((n' : Int) == (n : Int)) = false := by
                  rw [beq_eq_false_iff_ne]
                  omega
                exact this
              · refine ⟨by show 2 ≤ sizeLine; decide, fun u1 n1 => ?_⟩
                refine ⟨_, rfl, 2, rfl, a, _, rfl, sameT (Same.new n1) hv5, notwhole2, fun u2 n2 => ?_⟩
                rw [cut2]
                have n12 : u1 ≠ u2 := fun z => by rw [← z, upd_same] at n2; cases n2
                have Sx1 := Same.new (o := .tup [V.str t.head, V.int ((ths0 st t).idxOf n : Nat)]) n1
                have Sx2 := Sx1.trans (Same.new (o := .tup (tail2 t)) n2)
                have ea : age st t = t.withN ((ths0 st t).idxOf n) := by unfold age; rw [en]
                have ev := vals_with en ((ths0 st t).idxOf n)
                refine ⟨u1, u2, _, _, rfl, rfl, SqT.of (by rw [upd_ne n12]; exact upd_same), SqT.of upd_same, by simp, ?_, fun z => ?_, fun _ u3 n3 => ?_⟩
                · have := tail2_len t
                  rw [sizeLine_eq]
                  simp only [List.length_cons, List.length_nil]
                  omega
                · refine ⟨.ref u1, _, rfl, h5.same Sx2, ⟨u1, rfl, ?_⟩, rfl⟩
                  rw [ea, ev, z]
                  exact SqT.of (by rw [upd_ne n12]; exact upd_same)
                · refine ⟨.ref u3, _, rfl, h5.same (Sx2.trans (Same.new n3)), ⟨u3, rfl, ?_⟩, rfl⟩
                  rw [ea, ev]
                  exact SqT.of upd_same
        · rintro σ' H4 ⟨u, run', rfl, h4, ⟨a', rfl, ha4⟩, erun⟩
          have lrun' : run'.length ≤ 400 := by
            rw [erun]
            cases t.num? with
            | none => exact lrun
            | some n => exact Nat.le_trans (List.length_erase_le) lrun
          -- a thing is started
          refine ⟨fun σ' H5 => σ' = [some (.ref h), some (.ref p), some (.ref q), some (.ref g'), some (.int ((go st t).kinds.length : Nat)), some (.ref a')] ∧ TI K H H5 p q g' rs' (go st t).run (go st t).ths (acc0 ++ [l]) ∧ SqT K H5 a' (age st t).vals, ?_, ?_⟩
          · have ha4' : SqT K H4 a' (.str (age st t).head :: (age st t).rest) := ha4
            refine ⟨_, rfl, a', _, _, .str (age st t).head, rfl, rfl, ha4', at0, by show 2 ≤ sizeLine; decide, fun e ne => ⟨e, _, rfl, .inr (SqT.of upd_same), rfl, rfl, _, rfl, ?_⟩⟩
            have Se := Same.new (o := .tup [V.str "asked", V.str "set"]) ne
            have h5 := h4.same Se
            have ha5 := sameT Se ha4
            generalize upd H4 e (.tup [V.str "asked", V.str "set"]) = H5 at h5 ha5
            cases es : t.start? with
            | none =>
              refine iteF' (by show inV _ _ = false; rw [age_head, in_start, es]; rfl) ?_
              have e1 : (go st t).kinds = st.kinds ∧ (go st t).ths = ths0 st t ∧ (go st t).run = run' := by
                rw [erun]
                unfold go
                rw [es]
                cases t.num? <;> exact ⟨rfl, rfl, rfl⟩
              rw [e1.1, e1.2.1, e1.2.2]
              exact ⟨rfl, h5, ha5⟩
            | some kk =>
              refine iteT' (by show inV _ _ = true; rw [age_head, in_start, es]; rfl) ?_
              have en : t.num? = none := by cases t <;> simp_all [Tok.num?, Tok.start?]
              rw [en] at erun
              subst erun
              have ego : go st t = ⟨st.run ++ [st.kinds.length], st.kinds ++ [kk], ths0 st t ++ [st.kinds.length], st.len + 1, t.last⟩ := by unfold go; rw [es]
              refine ⟨_, rfl, Or.inl ⟨rfl, _, SqL.of h5.hg⟩, _, rfl, g', _, _, rfl, rfl, h5.hg, small1000 (by rw [List.length_map]; omega), ?_⟩
              have en1 : nats (ths0 st t) ++ [V.int (st.kinds.length : Nat)] = nats (ths0 st t ++ [st.kinds.length]) := by simp [nats]
              rw [en1]
              have h6 := h5.ths (ths' := ths0 st t ++ [st.kinds.length])
              refine ⟨_, rfl, Or.inl ⟨rfl, _, SqL.of h6.hq⟩, _, rfl, q, _, _, rfl, rfl, h6.hq, small1000 (by rw [List.length_map]; omega), ?_⟩
              have en2 : nats st.run ++ [V.int (st.kinds.length : Nat)] = nats (st.run ++ [st.kinds.length]) := by simp [nats]
              rw [en2]
              have h7 := h6.run (run' := st.run ++ [st.kinds.length])
              refine ⟨_, rfl, _, _, rfl, rfl, ?_⟩
              rw [ego]
              exact ⟨by show [_, _, _, _, some (V.int ((st.kinds.length : Int) + 1)), _] = [_, _, _, _, some (V.int ((st.kinds ++ [kk]).length : Nat)), _]; simp, h7, updT h6.hq (updT h5.hg ha5)⟩
          · rintro σ' H5 ⟨rfl, h5, ha5⟩
            have htk : TokAt K H5 (.ref a') (age st t) := ⟨a', rfl, ha5⟩
            obtain ⟨rs0, r, ys, er, hr, hyl, h6⟩ := h5.tok htk
            have hpl := h5.ta.1
            subst er
            have emap : (rs0 ++ [r]).map V.ref = rs0.map V.ref ++ [V.ref r] := by simp
            rw [emap] at hpl
            have eix : (((rs0.map V.ref ++ [V.ref r]).length : Nat) : Int) - 1 = ((rs0.length : Nat) : Int) := by simp
            refine ⟨_, rfl, _, rfl, p, _, rfl, .inl (SqL.of hpl), _, _, rfl, rfl, p, _, _, .ref r, rfl, rfl, SqL.of hpl, (by rw [eix]; exact atI_nat (by simp)), Or.inl ⟨rfl, _, SqL.of hr⟩, _, rfl, r, ys, _, rfl, rfl, hr, small1000 (by omega), ?_⟩
            rw [← ecut]
            exact ⟨g', _, _, rfl, h6⟩
    · obtain ⟨g, rs, v5, rfl, h2⟩ := y
      refine ⟨_, rfl, ?_⟩
      rw [el, List.take_length] at h2
      exact k H2 p rs h2.sm h2.fr h2.ta
end
end K13

set_option Elab.async false
set_option maxRecDepth 100000
set_option maxHeartbeats 4000000
set_option linter.all false
namespace K13
open PySem PySem.Spec PyProof.Rows L2
abbrev rLenSeq (K : PySem.W.Frag) : List V → Hp → VK → Prop := fun xs H Q => ∃ p ys, xs = [V.ref p] ∧ (SqL K H p ys ∨ SqT K H p ys) ∧ Q (V.int (ys.length : Nat)) H
def lastFin (hs : List Tok) : Bool := match hs.getLast? with
  | some t => t.last
  | none => false
theorem wT_none {f : Bool} {s : S} {h : List Tok} {t : Tok} {r : List (Option Tok)} (c : (t.outer != f) = true ∨ ∀ u, byNum s t = some u → may s u = false) : wToks f s h (some t :: r) = none := by
  simp only [wToks]
  split
  · rfl
  · split
    · rfl
    · rename_i n1 _ u e
      rcases c with c | c
      · exact absurd c n1
      · rw [c u e]
        rfl
theorem wT_some {f : Bool} {s : S} {h : List Tok} {t u : Tok} {r : List (Option Tok)} (o : (t.outer != f) = false) (b : byNum s t = some u) (m : may s u = true) : wToks f s h (some t :: r) = wToks false (go s u) (h ++ [u]) r := by
  simp only [wToks, o, b, m, if_true, Bool.false_eq_true, if_false]
theorem byNum_begin {s : S} {t u : Tok} (h : byNum s t = some u) : u.isBegin = t.isBegin := by
  unfold byNum at h
  split at h
  · rename_i a en
    obtain ⟨n, _, e⟩ := Option.map_eq_some_iff.mp h
    subst e
    cases t <;> simp_all [Tok.num?, Tok.withN, Tok.isBegin]
  · cases h
    rfl
theorem not_may {s : S} {u : Tok} (c : s.fin = true ∨ u.isBegin ≠ (s.len == 0) ∨ kindOk s u = false) : may s u = false := by
  cases h : may s u with
  | false => rfl
  | true =>
    obtain ⟨h1, h2, h3⟩ := may_kind h
    rcases c with c | c | c
    · rw [c] at h2; cases h2
    · exact absurd h3 c
    · rw [c] at h1; cases h1
/-- what is gone back over -/
structure BI (K : PySem.W.Frag) (H0 H : Hp) (p q r : Addr) (s : S) (hs : List Tok) : Prop where
  sm : Same H0 H
  hp : ∃ xs, H p = some (.lst xs) ∧ All2 (TokAt K H) xs hs
  hq : H q = some (.lst (nats s.run))
  hr : H r = some (.lst (s.kinds.map kindH))
  new : H0 p = none ∧ H0 q = none ∧ H0 r = none
  df : p ≠ q ∧ p ≠ r ∧ q ≠ r
  len : s.len = hs.length
  fin : s.fin = lastFin hs
  gd : Good s
structure GI (H0 H : Hp) (p q r g : Addr) (ths : List Nat) : Prop where
  hg : H g = some (.lst (nats ths))
  new : H0 g = none
  df : g ≠ p ∧ g ≠ q ∧ g ≠ r
theorem BI.same {K : PySem.W.Frag} {H0 H H' : Hp} {p q r : Addr} {s : S} {hs : List Tok} (h : BI K H0 H p q r s hs) (e : Same H H') : BI K H0 H' p q r s hs := by
  obtain ⟨xs, h1, h2⟩ := h.hp
  exact ⟨h.sm.trans e, ⟨xs, e _ _ h1, h2.imp fun x y _ q => q.same e⟩, e _ _ h.hq, e _ _ h.hr, h.new, h.df, h.len, h.fin, h.gd⟩
theorem GI.same {H0 H H' : Hp} {p q r g : Addr} {ths : List Nat} (h : GI H0 H p q r g ths) (e : Same H H') : GI H0 H' p q r g ths := ⟨e _ _ h.hg, h.new, h.df⟩
theorem go_kl {s : S} (t : Tok) (h : s.kinds.length ≤ s.len) : (go s t).kinds.length ≤ (go s t).len := by
  unfold go
  split
  · simp; omega
  · split
    · show s.kinds.length ≤ s.len + 1; omega
    · show s.kinds.length ≤ s.len + 1; omega
theorem go_fin (s : S) (t : Tok) : (go s t).fin = t.last := by
  unfold go
  split
  · rfl
  · split <;> rfl
/-- lists of tokens, some of them perhaps the same object -/
def TurnL (K : PySem.W.Frag) (H : Hp) (x : V) (ts : List Tok) : Prop := ∃ r, x = .ref r ∧ LT K H r ts
def spBack (K : PySem.W.Frag) : Sp := fun vs H Q _ => ∃ (p : Addr) (xs : List V) (turns : List (List Tok)), vs = [.ref p] ∧ H p = some (.lst xs) ∧ All2 (TurnL K H) xs turns ∧ (turns.map List.length).sum ≤ 440 ∧ turns.length ≤ 440 ∧
  (∀ H', Same H H' → lBack turns = none → Q .non H') ∧ (∀ H' p' xs' hh, Same H H' → lBack turns = some hh → H p' = none → H' p' = some (.lst xs') → All2 (TokAt K H') xs' hh → Q (.ref p') H')
theorem lB_none {turns : List (List Tok)} (h : wWalk false s0 [] (lift turns) = none) : lBack turns = none := by
  unfold lBack
  rw [h]
theorem in_nats (n : Nat) (ns : List Nat) : inV (.int n) (nats ns) = ns.contains n := by
  induction ns with
  | nil => rfl
  | cons a l ih =>
    have e : inV (.int n) (nats (a :: l)) = ((a : Int) == (n : Int) || inV (.int n) (nats l)) := rfl
    rw [e, ih, List.contains_cons]
    have : ((a : Int) == (n : Int)) = (n == a) := by
      by_cases h : n = a
      · subst h; simp
      · rw [beq_eq_false_iff_ne.mpr h, beq_eq_false_iff_ne]
        omega
    rw [this]
theorem nats_flat (ns : List Nat) : (nats ns).all flatV = true := by
  rw [List.all_map]
  simp [flatV]
theorem kcond {s : S} {t : Tok} {n ag : Nat} {kb : Bool} (en : t.num? = some ag) (hc : s.run.contains n = true) (hkb : s.kinds[n]? = some kb) :
    kindOk s (t.withN n) = !((!decide (V.str t.head = V.str "dropped")) && !decide (kindH kb = V.str t.head)) := by
  have x1 : decide (V.str "answer" = V.str "dropped") = false := by decide +kernel
  have x2 : decide (V.str "rang" = V.str "dropped") = false := by decide +kernel
  have x3 : decide (V.str "dropped" = V.str "dropped") = true := by decide +kernel
  have y1 : decide (kindH false = V.str "answer") = false := by decide +kernel
  have y2 : decide (kindH true = V.str "answer") = true := by decide +kernel
  have y3 : decide (kindH false = V.str "rang") = true := by decide +kernel
  have y4 : decide (kindH true = V.str "rang") = false := by decide +kernel
  cases t with
  | answer a w =>
    show (s.run.contains n && s.kinds[n]? == some true) = !((!decide (V.str "answer" = V.str "dropped")) && !decide (kindH kb = V.str "answer"))
    rw [hc, hkb, x1]
    cases kb
    · rw [y1]; rfl
    · rw [y2]; rfl
  | rang a =>
    show (s.run.contains n && s.kinds[n]? == some false) = !((!decide (V.str "rang" = V.str "dropped")) && !decide (kindH kb = V.str "rang"))
    rw [hc, hkb, x2]
    cases kb
    · rw [y3]; rfl
    · rw [y4]; rfl
  | dropped a =>
    show s.run.contains n = !((!decide (V.str "dropped" = V.str "dropped")) && !decide (kindH kb = V.str "dropped"))
    rw [hc, x3]
    rfl
  | _ => cases en
theorem byNum_outer {s : S} {t u : Tok} (h : byNum s t = some u) : u.outer = t.outer := by
  unfold byNum at h
  split at h
  · rename_i a en
    obtain ⟨n, _, e⟩ := Option.map_eq_some_iff.mp h
    subst e
    exact (withN_num en n).2.2
  · cases h
    rfl
theorem lastFin_app (hs : List Tok) (t : Tok) : lastFin (hs ++ [t]) = t.last := by
  simp [lastFin]
/-- a number less is open -/
theorem BI.drop {K : PySem.W.Frag} {H0 H : Hp} {p q r : Addr} {s : S} {hs : List Tok} {n : Nat} (h : BI K H0 H p q r s hs) : BI K H0 (upd H q (.lst (nats (s.run.erase n)))) p q r { s with run := s.run.erase n } hs := by
  obtain ⟨xs, h1, h2⟩ := h.hp
  refine ⟨fun b o hb => by rw [upd_ne (ne_of_none hb h.new.2.1)]; exact h.sm b o hb, ⟨xs, by rw [upd_ne h.df.1]; exact h1, h2.imp fun a b _ y => y.stay fun c zs hz => updT h.hq hz⟩, upd_same, by rw [upd_ne h.df.2.2.symm]; exact h.hr, h.new, h.df, h.len, h.fin, ⟨fun m hm => h.gd.sub m (List.mem_of_mem_erase hm), h.gd.srt, h.gd.srr.sublist List.erase_sublist, h.gd.few⟩⟩
theorem dp_empties {K : PySem.W.Frag} {H : Hp} : ∀ es : List V, (∀ x ∈ es, ∃ r, x = .ref r ∧ SqL K H r []) → DpAll K H es (List.replicate es.length (.list []))
  | [], _ => .nil
  | x :: l, h => by
    obtain ⟨r, rfl, hr⟩ := h x List.mem_cons_self
    exact .cons (.lst hr .nil) (dp_empties l fun y hy => h y (List.mem_cons_of_mem _ hy))
theorem empties_lay : ∀ n : Nat, PyData.canLayAll0 (List.replicate n (.list [])) = true
  | 0 => by simp [PyData.canLayAll0]
  | n + 1 => by
    rw [List.replicate_succ, PyData.canLayAll0, empties_lay n]
    simp [PyData.canLay0, PyData.canLayAll0]
theorem empties_depth : ∀ n : Nat, PyData.depthAll (List.replicate n (.list [])) ≤ 2
  | 0 => by simp [PyData.depthAll]
  | n + 1 => by
    have := empties_depth n
    simp [List.replicate_succ, PyData.depthAll, PyData.depth]
    omega
theorem empties_shaped (n : Nat) (hn : n ≤ 1000) : SeqAt.shaped (.list (List.replicate n (.list []))) = true := by
  have d := empties_depth n
  unfold SeqAt.shaped
  rw [Bool.and_eq_true]
  refine ⟨?_, decide_eq_true ?_⟩
  · rw [PyData.canLay0]
    simp [empties_lay n]
  · rw [PyData.depth]
    omega
section
variable {P : Program} {w : World} {K : PySem.W.Frag} {mg : Str → Option Value} {base : Heap}
theorem ok_back {f : Addr} {fd : FuncData} (F : FnP K "_law_back" "_law_back" s__law_back f fd) (T : Tx w K mg) : FnOk P w K mg base CX0 1 f fd p__law_back (spBack K) := by
  refine F.ok sc__law_back (fun vs H Q E h => ?_) (fun cdv A outer s H vs Q E hr h => ?_)
  · obtain ⟨p, xs, turns, rfl, _⟩ := h
    rfl
  · obtain ⟨p0, xs0, turns, rfl, hp0, hts, few, few2, kn, ks⟩ := h
    have hu := hu_of hr
    have el := hts.len
    refine ⟨_, PSs.nox (pss_cons (ps_set (i := 1) sc__law_back.nd rfl (.inl rfl) (pe_lst pa_nil))
      (pss_cons (ps_set (i := 2) sc__law_back.nd rfl (.inl rfl) (pe_lst pa_nil))
      (pss_cons (ps_set (i := 3) sc__law_back.nd rfl (.inl rfl) (pe_lst pa_nil))
      (pss_cons (ps_for PassesOwn.never rfl (pi_list (pv 0)) (pg_name (i := 4) sc__law_back.nd rfl (.inl rfl)) (pss_cons (ps_set (i := 5) sc__law_back.nd rfl (.inl rfl) (pe_callTy call_list_of (by rfl) T.b_list (by decide +kernel) (pa_cons (pv 2) pa_nil)))
      (pss_one (ps_for PassesOwn.never rfl (pi_range1 (by rfl) T.b_range (pa_cons (pe_callB call_len_seq (by rfl) T.b_len PySem.boot_len (pa_cons (pv 4) pa_nil)) pa_nil)) (pg_name (i := 6) sc__law_back.nd rfl (.inl rfl)) (pss_cons (ps_set (i := 7) sc__law_back.nd rfl (.inl rfl) (pe_ix ix_list (pv 4) (pv 6) (fun _ _ => rfl)))
      (pss_cons (ps_if (pt_cmpR op_ne (pe_cmpR op_in_seq (pe_ix ix_tup (pv 7) pe_int (fun _ _ => rfl)) (pe_tup (pa_cons pe_str (pa_cons pe_str (pa_cons pe_str (pa_cons pe_str pa_nil))))) (by rfl)) (pe_cmpR op_eq (pv 6) pe_int (nomark _)) (nomark _)) (pss_one (ps_ret pe_non)) pss_nil)
      (pss_cons (ps_if (pt_cmpR op_ne (pe_cmpR op_eq (pe_ix ix_tup (pv 7) pe_int (fun _ _ => rfl)) pe_str (nomark _)) (pe_cmpR op_eq (pe_callB call_len_seq (by rfl) T.b_len PySem.boot_len (pa_cons (pv 1) pa_nil)) pe_int (nomark _)) (nomark _)) (pss_one (ps_ret pe_non)) pss_nil)
      (C8.pss_cut (ps_if (PW.pt (pw_and (pt_cmpR op_gt (pe_callB call_len_seq (by rfl) T.b_len PySem.boot_len (pa_cons (pv 1) pa_nil)) pe_int (nomark _)) (pw_and1 (pt_cmpR op_in_seq (pe_ix ix_tup (pe_ix ix_list (pv 1) (pe_op op_sub (pe_callB call_len_seq (by rfl) T.b_len PySem.boot_len (pa_cons (pv 1) pa_nil)) pe_int) (fun _ _ => rfl)) pe_int (fun _ _ => rfl)) (pe_tup (pa_cons pe_str (pa_cons pe_str pa_nil))) (by rfl))))) (pss_one (ps_ret pe_non)) pss_nil)
      (C8.pss_cut (ps_if (pt_cmpR op_in_seq (pe_ix ix_tup (pv 7) pe_int (fun _ _ => rfl)) (pe_tup (pa_cons pe_str (pa_cons pe_str (pa_cons pe_str pa_nil)))) (by rfl)) (pss_cons (ps_if (PW.pt (pw_or (pt_cmpR op_ge (pe_ix ix_tup (pv 7) pe_int (fun _ _ => rfl)) (pe_callB call_len_seq (by rfl) T.b_len PySem.boot_len (pa_cons (pv 5) pa_nil)) (nomark _)) (pw_or1 (pt_cmpR op_notIn_seq (pe_ix ix_list (pv 5) (pe_ix ix_tup (pv 7) pe_int (fun _ _ => rfl)) (fun _ _ => rfl)) (pv 2) (by rfl))))) (pss_one (ps_ret pe_non)) pss_nil)
      (C8.pss_cut (ps_set (i := 7) sc__law_back.nd rfl (.inl rfl) (pe_op op_catT (pe_tup (pa_cons (pe_ix ix_tup (pv 7) pe_int (fun _ _ => rfl)) (pa_cons (pe_ix ix_list (pv 5) (pe_ix ix_tup (pv 7) pe_int (fun _ _ => rfl)) (fun _ _ => rfl)) pa_nil))) (pe_slice sl_tup (pv 7) (po_some pe_int) po_none)))
      (pss_cons (ps_if (PW.pt (pw_and (pt_cmpR op_ne (pe_ix ix_tup (pv 7) pe_int (fun _ _ => rfl)) pe_str (nomark _)) (pw_and1 (pt_cmpR op_ne (pe_ix ix_list (pv 3) (pe_ix ix_tup (pv 7) pe_int (fun _ _ => rfl)) (fun _ _ => rfl)) (pe_ix ix_tup (pv 7) pe_int (fun _ _ => rfl)) (nomark _))))) (pss_one (ps_ret pe_non)) pss_nil)
      (pss_one (ps_expr (pe_bm PySem.F.plainAttrs_list PySem.F.slot_list_remove PySem.F.type_list_remove mt_remove (pv 2) (pa_cons (pe_ix ix_tup (pv 7) pe_int (fun _ _ => rfl)) pa_nil))))))) pss_nil)
      (C8.pss_cut (ps_if (pt_cmpR op_in_seq (pe_ix ix_tup (pv 7) pe_int (fun _ _ => rfl)) (pe_tup (pa_cons pe_str (pa_cons pe_str pa_nil))) (by rfl)) (pss_cons (ps_expr (pe_bm PySem.F.plainAttrs_list PySem.F.slot_list_append PySem.F.type_list_append mt_append (pv 5) (pa_cons (pe_callB call_len_seq (by rfl) T.b_len PySem.boot_len (pa_cons (pv 3) pa_nil)) pa_nil)))
      (pss_cons (ps_expr (pe_bm PySem.F.plainAttrs_list PySem.F.slot_list_append PySem.F.type_list_append mt_append (pv 2) (pa_cons (pe_callB call_len_seq (by rfl) T.b_len PySem.boot_len (pa_cons (pv 3) pa_nil)) pa_nil)))
      (pss_one (ps_expr (pe_bm PySem.F.plainAttrs_list PySem.F.slot_list_append PySem.F.type_list_append mt_append (pv 3) (pa_cons (pe_dget hu (pe_disp (pps_cons pe_str pe_str (pps_cons pe_str pe_str pps_nil)) (by rfl) (by rfl) (fun z => by cases z) (by decide)) (pe_ix ix_tup (pv 7) pe_int (fun _ _ => rfl)) (fun _ _ => rfl)) pa_nil)))))) pss_nil)
      (pss_one (ps_expr (pe_bm PySem.F.plainAttrs_list PySem.F.slot_list_append PySem.F.type_list_append mt_append (pv 1) (pa_cons (pv 7) pa_nil))))))))))))))
      (pss_cons (ps_if (PW.pt (pw_or (pt_cmpR (op_neD hr.units) (pe_lc (own := [("_law_turn", 4)]) (g := (gName 4)) (by rfl) sc__law_back.nd (pi_list (pv 0)) (blkOk_by (N := n__law_back) (sc := defScope s__law_back) (by decide +kernel)) (fun _ _ _ _ _ => (pg_name (i := 4) sc__law_back.nd rfl (.inl rfl))) (fun _ _ _ _ _ => (pts_one (pt_cmpR op_eq (pe_callB (show CallR _ _ (rLenSeq K) from call_len_seq) (by rfl) T.b_len PySem.boot_len (pa_cons (pv 4) pa_nil)) pe_int (nomark _)))) (fun _ _ _ _ _ => (pv 4))) (pe_lst pa_nil) (nomark _)) (pw_or1 (pt_cmpR op_eq (pe_callB call_len_seq (by rfl) T.b_len PySem.boot_len (pa_cons (pv 1) pa_nil)) pe_int (nomark _))))) (pss_one (ps_ret pe_non)) pss_nil)
      (pss_one (ps_ret (pv 1)))))))), ?_⟩
    refine ⟨by show 0 ≤ sizeLine; decide, fun p np => ⟨by show 0 ≤ sizeLine; decide, fun q nq => ⟨by show 0 ≤ sizeLine; decide, fun r nr => ?_⟩⟩⟩
    have pq : p ≠ q := fun y => by rw [← y, upd_same] at nq; cases nq
    have pr : p ≠ r := fun y => by rw [← y, upd_ne pq, upd_same] at nr; cases nr
    have qr : q ≠ r := fun y => by rw [← y, upd_same] at nr; cases nr
    have h0 : BI K H (upd (upd (upd H p (.lst [])) q (.lst [])) r (.lst [])) p q r s0 [] := by
      refine ⟨((Same.new np).trans (Same.new nq)).trans (Same.new nr), ⟨[], ?_, .nil⟩, ?_, upd_same, ⟨np, none1 nq, none1 (none1 nr)⟩, ⟨pq, pr, qr⟩, rfl, rfl, good0⟩
      · rw [upd_ne pr, upd_ne pq, upd_same]
      · rw [upd_ne qr, upd_same]
        rfl
    generalize upd (upd (upd H p (.lst [])) q (.lst [])) r (.lst []) = H1 at h0
    refine ⟨_, rfl, p0, rfl, ⟨xs0, SqL.of (h0.sm _ _ hp0)⟩, ?_⟩
    refine for_list (K := K) (a := p0) (xs := xs0) (fun i σ H2 => ∃ (si : S) (hs : List Tok) (v4 v5 v6 v7 : Option V), σ = [some (.ref p0), some (.ref p), some (.ref q), some (.ref r), v4, v5, v6, v7] ∧ BI K H H2 p q r si hs ∧
      hs.length = ((turns.map List.length).take i).sum ∧ wWalk false s0 [] (lift turns) = wWalk false si hs (lift (turns.drop i)) ∧ si.kinds.length ≤ si.len) ⟨s0, [], none, none, none, none, rfl, h0, rfl, rfl, Nat.le_refl _⟩ (fun i σ H2 _ y => ?_) (fun i x σ H2 hi y => ?_) (fun σ H2 y => ?_)
    · obtain ⟨_, _, _, _, _, _, _, t, _⟩ := y
      exact SqL.of (t.sm _ _ hp0)
    · obtain ⟨si, hs, v4, v5, v6, v7, rfl, h2, hsl, hw, kl2⟩ := y
      obtain ⟨turn, ht, tr, rfl, hlt⟩ := hts.get hi
      have hil : i < turns.length := (List.getElem?_eq_some_iff.mp ht).1
      have hdrop : turns.drop i = turn :: turns.drop (i + 1) := by
        rw [List.drop_eq_getElem_cons hil]
        congr 1
        exact (List.getElem?_eq_some_iff.mp ht).2
      have hlo : (turns.map List.length)[i]? = some turn.length := by rw [List.getElem?_map, ht]; rfl
      have hsum := sum_take hlo
      rw [hdrop] at hw
      have hw2 : wWalk false s0 [] (lift turns) = match wToks true (bt si) hs (turn.map some) with | none => none | some (s', h') => wWalk false s' h' (lift (turns.drop (i + 1))) := hw
      refine ⟨_, rfl, q, _, rfl, .inl (SqL.of h2.hq), fun g ng => ?_⟩
      have Sg := Same.new (o := .lst (nats si.run)) ng
      have h3 := h2.same Sg
      have g3 : GI H (upd H2 g (.lst (nats si.run))) p q r g (bt si).ths := by
        obtain ⟨ys, hp, _⟩ := h2.hp
        exact ⟨upd_same, h2.sm.free ng, (ne_of_none hp ng).symm, (ne_of_none h2.hq ng).symm, (ne_of_none h2.hr ng).symm⟩
      generalize upd H2 g (.lst (nats si.run)) = H3 at h3 g3
      have h3b : BI K H H3 p q r (bt si) hs := ⟨h3.sm, h3.hp, h3.hq, h3.hr, h3.new, h3.df, h3.len, h3.fin, h3.gd.bt⟩
      obtain ⟨xt, hxt, htoks⟩ := hlt
      have elt := htoks.len
      have lt440 : turn.length ≤ 440 := by omega
      refine ⟨_, rfl, tr, _, rfl, .inl (SqL.of (h3b.sm _ _ hxt)), (xt.length : Int), rfl, by omega, by omega, ?_⟩
      refine for_range (lo := 0) (n := (xt.length : Int).toNat) (fun k σ H4 => ∃ (sk : S) (hk : List Tok) (v6 v7 : Option V), σ = [some (.ref p0), some (.ref p), some (.ref q), some (.ref r), some (.ref tr), some (.ref g), v6, v7] ∧
        BI K H H4 p q r sk hk ∧ GI H H4 p q r g sk.ths ∧ hk.length = hs.length + k ∧ wToks true (bt si) hs (turn.map some) = wToks (k == 0) sk hk ((turn.drop k).map some) ∧ (k = 0 → sk.ths = sk.run) ∧ sk.kinds.length ≤ sk.len) ⟨bt si, hs, _, _, rfl, h3b, g3, rfl, rfl, fun _ => rfl, kl2⟩ (fun k σ H4 hk4 y => ?_) (fun σ H4 y => ?_)
      · obtain ⟨sk, hk, v6, v7, rfl, h4, g4, hkl, hwk, hk0, kl4⟩ := y
        have hkt : k < turn.length := by omega
        have hxk : xt[k]? = some (xt[k]'(by omega)) := List.getElem?_eq_getElem (by omega)
        obtain ⟨t, htk, a, hva, ha0⟩ := htoks.get hxk
        have hdk : turn.drop k = t :: turn.drop (k + 1) := by
          rw [List.drop_eq_getElem_cons hkt]
          congr 1
          exact (List.getElem?_eq_some_iff.mp htk).2
        rw [hdk] at hwk
        have hwk2 : wToks true (bt si) hs (turn.map some) = wToks (k == 0) sk hk (some t :: (turn.drop (k + 1)).map some) := hwk
        -- none comes out
        have fail : ∀ H', Same H H' → wToks (k == 0) sk hk (some t :: (turn.drop (k + 1)).map some) = none → Q .non H' := fun H' S' e => by
          refine kn H' S' (lB_none ?_)
          rw [hw2, hwk2, e]
        have e0 : (0 + (k : Int)) = (k : Int) := by omega
        refine ⟨_, rfl, _, rfl, tr, xt, _, _, rfl, rfl, SqL.of (h4.sm _ _ hxt), (by rw [e0]; exact atI_nat hxk), ?_⟩
        rw [hva, e0]
        have ha4 := sameT h4.sm ha0
        refine ⟨_, rfl, a, _, _, .str t.head, rfl, rfl, ha4, at0, by show 4 ≤ sizeLine; decide, fun e ne => ⟨e, _, rfl, .inr (SqT.of upd_same), rfl, rfl, _, rfl, rfl, rfl, _, rfl, ?_⟩⟩
        have Se := Same.new (o := .tup [V.str "begin", V.str "answer", V.str "rang", V.str "signal"]) ne
        have h5 := h4.same Se
        have g5 := g4.same Se
        generalize upd H4 e (.tup [V.str "begin", V.str "answer", V.str "rang", V.str "signal"]) = H5 at h5 g5
        have ha5 := sameT h5.sm ha0
        have c1 : (!decide (V.bl (inV (.str t.head) [.str "begin", .str "answer", .str "rang", .str "signal"]) = V.bl (decide (V.int (k : Nat) = V.int 0)))) = (t.outer != (k == 0)) := by
          rw [in_outer, dec_len]
          cases t.outer <;> cases (k == 0) <;> rfl
        cases o : (t.outer != (k == 0)) with
        | true =>
          refine iteT' (c1.trans o) ?_
          exact fail _ h5.sm (wT_none (.inl o))
        | false =>
          refine iteF' (c1.trans o) ?_
          obtain ⟨xs, hp5, hxs5⟩ := h5.hp
          have lx := hxs5.len
          refine ⟨_, rfl, a, _, _, .str t.head, rfl, rfl, ha5, at0, rfl, _, rfl, p, _, rfl, .inl (SqL.of hp5), rfl, rfl, _, rfl, ?_⟩
          have c2 : (!decide (V.bl (decide (V.str t.head = V.str "begin")) = V.bl (decide (V.int (xs.length : Nat) = V.int 0)))) = !(t.isBegin == (sk.len == 0)) := by
            rw [dec_begin, dec_len, h5.len, ← lx]
            cases t.isBegin <;> cases (xs.length == 0) <;> rfl
          cases ob : (t.isBegin == (sk.len == 0)) with
          | false =>
            refine iteT' (by rw [c2, ob]; rfl) ?_
            refine fail _ h5.sm (wT_none (.inr fun u hu => not_may (.inr (.inl ?_))))
            rw [byNum_begin hu]
            exact beq_eq_false_iff_ne.mp ob
          | true =>
            refine iteF' (by rw [c2, ob]; rfl) ?_
            refine ⟨fun σ' H6 => σ' = [some (.ref p0), some (.ref p), some (.ref q), some (.ref r), some (.ref tr), some (.ref g), some (.int (k : Nat)), some (.ref a)] ∧ BI K H H6 p q r sk hk ∧ GI H H6 p q r g sk.ths ∧ sk.fin = false, ?_, ?_⟩
            · refine ⟨_, rfl, p, _, rfl, .inl (SqL.of hp5), _, _, rfl, rfl, _, rfl, ?_⟩
              refine ite2 (fun c3 => ?_) fun c3 => ?_
              · have c3' := of_decide_eq_true c3
                have hne : hk ≠ [] := fun z => by rw [z] at lx; simp at lx; rw [lx] at c3'; simp at c3'
                obtain ⟨hk0, tl, ehk⟩ : ∃ hk0 tl, hk = hk0 ++ [tl] := by
                  rcases List.eq_nil_or_concat hk with e | ⟨l, a, e⟩
                  · exact absurd e hne
                  · exact ⟨l, a, by rw [e, List.concat_eq_append]⟩
                rw [ehk] at hxs5
                obtain ⟨xs1, vl, exs, _, al, hvl, hal⟩ := hxs5.back
                subst exs
                have eix : (((xs1 ++ [vl]).length : Nat) : Int) - 1 = ((xs1.length : Nat) : Int) := by simp
                refine ⟨_, rfl, _, rfl, p, _, rfl, .inl (SqL.of hp5), _, _, rfl, rfl, p, _, _, vl, rfl, rfl, SqL.of hp5, (by rw [eix]; exact atI_nat (by simp)), al, _, _, .str tl.head, hvl, rfl, hal, at0, by show 2 ≤ sizeLine; decide, fun e ne => ⟨e, _, rfl, .inr (SqT.of upd_same), rfl, rfl, _, rfl, ?_⟩⟩
                have Se2 := Same.new (o := .tup [V.str "ended", V.str "anew"]) ne
                have ef : sk.fin = tl.last := by rw [h5.fin, ehk, lastFin_app]
                cases ol : tl.last with
                | true =>
                  refine iteT' (by show inV _ _ = true; rw [last_in, ol]) ?_
                  exact fail _ (h5.sm.trans Se2) (wT_none (.inr fun u hu => not_may (.inl (by rw [ef, ol]))))
                | false =>
                  refine iteF' (by show inV _ _ = false; rw [last_in, ol]) ?_
                  exact ⟨rfl, h5.same Se2, g5.same Se2, by rw [ef, ol]⟩
              · refine iteF ⟨rfl, h5, g5, ?_⟩
                have : hk = [] := by
                  refine List.length_eq_zero_iff.mp ?_
                  have c3' : ¬ (0 : Int) < (xs.length : Nat) := fun z => c3 (decide_eq_true z)
                  omega
                rw [h5.fin, this]
                rfl
            · rintro σ' H6 ⟨rfl, h6, g6, hfin⟩
              have ha6 := sameT h6.sm ha0
              have lrun := srt_few h6.gd.srr h6.gd.few'
              have lths := srt_few h6.gd.srt h6.gd.few
              have lkk := kl4
              have lln := h6.len
              have hk440 : hk.length ≤ 440 := by omega
              have hb' : ∀ u, byNum sk t = some u → kindOk sk u = true → may sk u = true := fun u hu hkd => by
                have e1 := byNum_begin hu
                simp only [may, hfin, e1, ob, hkd]
                rfl
              refine ⟨fun σ' H7 => ∃ (u : Tok) (au : Addr), σ' = [some (.ref p0), some (.ref p), some (.ref q), some (.ref r), some (.ref tr), some (.ref g), some (.int (k : Nat)), some (.ref au)] ∧ byNum sk t = some u ∧ may sk u = true ∧ SqT K H7 au u.vals ∧
                BI K H H7 p q r { sk with run := (match u.num? with | some n => sk.run.erase n | none => sk.run) } hk ∧ GI H H7 p q r g sk.ths, ?_, ?_⟩
              · refine ⟨_, rfl, a, _, _, .str t.head, rfl, rfl, ha6, at0, by show 3 ≤ sizeLine; decide, fun e ne => ⟨e, _, rfl, .inr (SqT.of upd_same), rfl, rfl, _, rfl, ?_⟩⟩
                have Se3 := Same.new (o := .tup [V.str "answer", V.str "rang", V.str "dropped"]) ne
                have h7 := h6.same Se3
                have g7 := g6.same Se3
                generalize upd H6 e (.tup [V.str "answer", V.str "rang", V.str "dropped"]) = H7 at h7 g7
                have ha7 := sameT h7.sm ha0
                cases en : t.num? with
                | none =>
                  refine iteF' (by show inV _ _ = false; rw [in_num, en]; rfl) ?_
                  have hu : byNum sk t = some t := by unfold byNum; rw [en]
                  have hkd : kindOk sk t = true := by cases t <;> simp_all [Tok.num?, kindOk]
                  refine ⟨t, a, rfl, hu, hb' t hu hkd, ha7, ?_, g7⟩
                  rw [en]
                  exact h7
                | some ag =>
                  refine iteT' (by show inV _ _ = true; rw [in_num, en]; rfl) ?_
                  have hv7 : SqT K H7 a (.str t.head :: .int ag :: tail2 t) := by rw [← vals_num en]; exact ha7
                  have ebn : byNum sk t = (sk.ths[ag]?).map t.withN := by unfold byNum; rw [en]
                  refine ⟨_, rfl, a, _, _, .int ag, rfl, rfl, hv7, at1, _, rfl, g, _, rfl, .inl (SqL.of g7.hg), _, _, rfl, rfl, _, rfl, ?_⟩
                  refine ite2 (fun c4 => ?_) fun c4 => ?_
                  · refine iteT ?_
                    have c4' := of_decide_eq_true c4
                    rw [List.length_map] at c4'
                    refine fail _ h7.sm (wT_none (.inr fun u hu => ?_))
                    rw [ebn, List.getElem?_eq_none (by omega)] at hu
                    cases hu
                  · have c4' : ¬ (((nats sk.ths).length : Nat) : Int) ≤ (ag : Nat) := fun z => c4 (decide_eq_true z)
                    rw [List.length_map] at c4'
                    have hag : ag < sk.ths.length := by omega
                    have hn : sk.ths[ag]? = some sk.ths[ag] := List.getElem?_eq_getElem hag
                    generalize sk.ths[ag] = n at hn
                    have hnv : (nats sk.ths)[ag]? = some (.int (n : Nat)) := by rw [List.getElem?_map, hn]; rfl
                    have hu : byNum sk t = some (t.withN n) := by rw [ebn, hn]; rfl
                    refine ⟨_, rfl, _, rfl, a, _, _, .int ag, rfl, rfl, hv7, at1, g, _, _, .int n, rfl, rfl, SqL.of g7.hg, atI_nat hnv, _, rfl, q, _, rfl, .inl (SqL.of h7.hq), rfl, nats_flat _, _, rfl, ?_⟩
                    have c5 : (!inV (.int (n : Nat)) (nats sk.run)) = !sk.run.contains n := by rw [in_nats]
                    have unum : (t.withN n).num? = some n := (withN_num en n).1
                    cases hc : sk.run.contains n with
                    | false =>
                      refine iteT' (by show (!inV _ _) = true; rw [c5, hc]; rfl) ?_
                      refine fail _ h7.sm (wT_none (.inr fun u hu2 => not_may (.inr (.inr ?_))))
                      rw [hu] at hu2
                      cases hu2
                      cases e : kindOk sk (t.withN n) with
                      | false => rfl
                      | true =>
                        have := kind_run unum e
                        rw [← List.contains_iff_mem] at this
                        rw [this] at hc
                        cases hc
                    | true =>
                      refine iteF' (by show (!inV _ _) = false; rw [c5, hc]; rfl) ?_
                      have hnr : n ∈ sk.run := by simpa using hc
                      refine ⟨fun σ' H8 => ∃ a2 : Addr, σ' = [some (.ref p0), some (.ref p), some (.ref q), some (.ref r), some (.ref tr), some (.ref g), some (.int (k : Nat)), some (.ref a2)] ∧ SqT K H8 a2 (.str t.head :: .int n :: tail2 t) ∧ BI K H H8 p q r sk hk ∧ GI H H8 p q r g sk.ths, ?_, ?_⟩
                      · refine ⟨_, rfl, a, _, _, .str t.head, rfl, rfl, hv7, at0, _, rfl, _, rfl, a, _, _, .int ag, rfl, rfl, hv7, at1, g, _, _, .int n, rfl, rfl, SqL.of g7.hg, atI_nat hnv, ?_⟩
                        refine ⟨by show 2 ≤ sizeLine; decide, fun u1 n1 => ?_⟩
                        refine ⟨_, rfl, 2, rfl, a, _, rfl, sameT (Same.new n1) hv7, notwhole2, fun u2 n2 => ?_⟩
                        rw [cut2]
                        have n12 : u1 ≠ u2 := fun z => by rw [← z, upd_same] at n2; cases n2
                        have Sx2 := (Same.new (o := .tup [V.str t.head, V.int (n : Nat)]) n1).trans (Same.new (o := .tup (tail2 t)) n2)
                        refine ⟨u1, u2, _, _, rfl, rfl, SqT.of (by rw [upd_ne n12]; exact upd_same), SqT.of upd_same, by simp, ?_, fun z => ?_, fun _ u3 n3 => ?_⟩
                        · have := tail2_len t
                          rw [sizeLine_eq]
                          simp only [List.length_cons, List.length_nil]
                          omega
                        · refine ⟨u1, rfl, ?_, h7.same Sx2, g7.same Sx2⟩
                          rw [z]
                          exact SqT.of (by rw [upd_ne n12]; exact upd_same)
                        · exact ⟨u3, rfl, SqT.of upd_same, h7.same (Sx2.trans (Same.new n3)), g7.same (Sx2.trans (Same.new n3))⟩
                      · rintro σ' H8 ⟨a2, rfl, hv8, h8, g8⟩
                        obtain ⟨kb, hkb⟩ : ∃ kb, sk.kinds[n]? = some kb := ⟨_, List.getElem?_eq_getElem (h8.gd.few' n hnr)⟩
                        have hk8 : (sk.kinds.map kindH)[n]? = some (kindH kb) := by rw [List.getElem?_map, hkb]; rfl
                        have hcond : kindOk sk (t.withN n) = !((!decide (V.str t.head = V.str "dropped")) && !decide (kindH kb = V.str t.head)) := kcond en hc hkb
                        -- the number leaves
                        have leave : kindOk sk (t.withN n) = true → ∀ D : L2.St → Hp → Prop, (∀ H', BI K H H' p q r { sk with run := sk.run.erase n } hk → GI H H' p q r g sk.ths → SqT K H' a2 (.str t.head :: .int n :: tail2 t) → D [some (.ref p0), some (.ref p), some (.ref q), some (.ref r), some (.ref tr), some (.ref g), some (.int (k : Nat)), some (.ref a2)] H') →
                            D [some (.ref p0), some (.ref p), some (.ref q), some (.ref r), some (.ref tr), some (.ref g), some (.int (k : Nat)), some (.ref a2)] (upd H8 q (.lst (nats (sk.run.erase n)))) := fun _ D kk =>
                          kk _ h8.drop ⟨by rw [upd_ne g8.df.2.1]; exact g8.hg, g8.new, g8.df⟩ (updT h8.hq hv8)
                        have hix := List.idxOf_lt_length_of_mem hnr
                        have hget : sk.run[sk.run.idxOf n] = n := List.getElem_idxOf hix
                        have hq8 : H8 q = some (.lst ((sk.run.map fun n : Nat => (n : Int)).map V.int)) := by rw [← nats_int]; exact h8.hq
                        have ern : ((sk.run.map fun n : Nat => (n : Int)).eraseIdx (sk.run.idxOf n)).map V.int = nats (sk.run.erase n) := by
                          rw [← map_eraseIdx, ← nats_int, nats_erase (srt_nodup h8.gd.srr), (srt_nodup h8.gd.srr).erase_eq_filter]
                        have first : ∀ m : Nat, m < sk.run.idxOf n → (sk.run.map fun n : Nat => (n : Int))[m]? ≠ some (n : Int) := fun m hm e => by
                          rw [List.getElem?_map, List.getElem?_eq_getElem (by omega)] at e
                          have e2 : (sk.run[m]'(by omega)) = n := by
                            have h : ((sk.run[m]'(by omega) : Nat) : Int) = (n : Int) := Option.some.inj e
                            omega
                          have h3 := List.pairwise_iff_getElem.mp h8.gd.srr m _ (by omega) hix hm
                          rw [hget, e2] at h3
                          exact Nat.lt_irrefl _ h3
                        have hgi : (sk.run.map fun n : Nat => (n : Int))[sk.run.idxOf n]? = some (n : Int) := by rw [List.getElem?_map, List.getElem?_eq_getElem hix, hget]; rfl
                        have uvals : (t.withN n).vals = .str t.head :: .int n :: tail2 t := vals_with en n
                        refine ⟨_, rfl, a2, _, _, .str t.head, rfl, rfl, hv8, at0, rfl, _, rfl, ?_⟩
                        refine ite2 (fun c6 => ?_) fun c6 => ?_
                        · refine ⟨_, rfl, _, rfl, a2, _, _, .int n, rfl, rfl, hv8, at1, r, _, _, _, rfl, rfl, SqL.of h8.hr, atI_nat hk8, _, rfl, a2, _, _, .str t.head, rfl, rfl, hv8, at0, ?_, _, rfl, ?_⟩
                          · cases kb <;> rfl
                          · refine ite2 (fun c7 => ?_) fun c7 => ?_
                            · refine fail _ h8.sm (wT_none (.inr fun u hu2 => not_may (.inr (.inr ?_))))
                              rw [hu] at hu2
                              cases hu2
                              rw [hcond, c6, c7]
                              rfl
                            · have hkd : kindOk sk (t.withN n) = true := by
                                rw [hcond, c6]
                                simpa using c7
                              refine ⟨_, rfl, Or.inl ⟨rfl, _, SqL.of hq8⟩, _, rfl, a2, _, _, .int n, rfl, rfl, hv8, at1, q, _, n, sk.run.idxOf n, rfl, rfl, hq8, hgi, first, ?_⟩
                              rw [ern]
                              exact leave hkd (fun σ' H7 => ∃ (u : Tok) (au : Addr), σ' = [some (.ref p0), some (.ref p), some (.ref q), some (.ref r), some (.ref tr), some (.ref g), some (.int (k : Nat)), some (.ref au)] ∧ byNum sk t = some u ∧ may sk u = true ∧ SqT K H7 au u.vals ∧
                                BI K H H7 p q r { sk with run := (match u.num? with | some n => sk.run.erase n | none => sk.run) } hk ∧ GI H H7 p q r g sk.ths) fun H' b' g' s' => ⟨_, a2, rfl, hu, hb' _ hu hkd, by rw [uvals]; exact s', by rw [unum]; exact b', g'⟩
                        · have hkd : kindOk sk (t.withN n) = true := by
                            rw [hcond]
                            have : (!decide (V.str t.head = V.str "dropped")) = false := by simpa using c6
                            rw [this]
                            rfl
                          refine iteF ⟨_, rfl, Or.inl ⟨rfl, _, SqL.of hq8⟩, _, rfl, a2, _, _, .int n, rfl, rfl, hv8, at1, q, _, n, sk.run.idxOf n, rfl, rfl, hq8, hgi, first, ?_⟩
                          rw [ern]
                          exact leave hkd (fun σ' H7 => ∃ (u : Tok) (au : Addr), σ' = [some (.ref p0), some (.ref p), some (.ref q), some (.ref r), some (.ref tr), some (.ref g), some (.int (k : Nat)), some (.ref au)] ∧ byNum sk t = some u ∧ may sk u = true ∧ SqT K H7 au u.vals ∧
                                BI K H H7 p q r { sk with run := (match u.num? with | some n => sk.run.erase n | none => sk.run) } hk ∧ GI H H7 p q r g sk.ths) fun H' b' g' s' => ⟨_, a2, rfl, hu, hb' _ hu hkd, by rw [uvals]; exact s', by rw [unum]; exact b', g'⟩
              · rintro σ' H7 ⟨u, au, rfl, hu, hm, hau, h7, g7⟩
                have hstep : wToks (k == 0) sk hk (some t :: (turn.drop (k + 1)).map some) = wToks false (go sk u) (hk ++ [u]) ((turn.drop (k + 1)).map some) := wT_some o hu hm
                have lruns : (match u.num? with | some n => sk.run.erase n | none => sk.run).length ≤ 440 := by
                  cases u.num? with
                  | none => show sk.run.length ≤ 440; omega
                  | some n => exact Nat.le_trans (List.length_erase_le) (show sk.run.length ≤ 440 by omega)
                have eth : ths0 sk u = sk.ths := by
                  unfold ths0
                  rw [byNum_outer hu]
                  cases ot : t.outer with
                  | false => rfl
                  | true =>
                    rw [ot] at o
                    have : k = 0 := by
                      cases k with
                      | zero => rfl
                      | succ m => cases o
                    exact (hk0 this).symm
                have gdg := h6.gd.go u
                refine ⟨fun σ' H8 => σ' = [some (.ref p0), some (.ref p), some (.ref q), some (.ref r), some (.ref tr), some (.ref g), some (.int (k : Nat)), some (.ref au)] ∧ SqT K H8 au u.vals ∧ BI K H H8 p q r { go sk u with len := sk.len, fin := sk.fin } hk ∧ GI H H8 p q r g (go sk u).ths, ?_, ?_⟩
                · have hau' : SqT K H7 au (.str u.head :: u.rest) := hau
                  refine ⟨_, rfl, au, _, _, .str u.head, rfl, rfl, hau', at0, by show 2 ≤ sizeLine; decide, fun e ne => ⟨e, _, rfl, .inr (SqT.of upd_same), rfl, rfl, _, rfl, ?_⟩⟩
                  have Se4 := Same.new (o := .tup [V.str "asked", V.str "set"]) ne
                  have h8 := h7.same Se4
                  have g8 := g7.same Se4
                  have hau8 := sameT Se4 hau'
                  generalize upd H7 e (.tup [V.str "asked", V.str "set"]) = H8 at h8 g8 hau8
                  cases es : u.start? with
                  | none =>
                    refine iteF' (by show inV _ _ = false; rw [in_start, es]; rfl) ?_
                    have e1 : ({ go sk u with len := sk.len, fin := sk.fin } : S) = { sk with run := (match u.num? with | some n => sk.run.erase n | none => sk.run) } ∧ (go sk u).ths = sk.ths := by
                      unfold go
                      rw [es, eth]
                      cases u.num? <;> exact ⟨rfl, rfl⟩
                    rw [e1.1, e1.2]
                    exact ⟨rfl, hau8, h8, g8⟩
                  | some kk =>
                    refine iteT' (by show inV _ _ = true; rw [in_start, es]; rfl) ?_
                    have en : u.num? = none := by cases u <;> simp_all [Tok.num?, Tok.start?]
                    rw [en] at h8
                    have ego : go sk u = ⟨sk.run ++ [sk.kinds.length], sk.kinds ++ [kk], sk.ths ++ [sk.kinds.length], sk.len + 1, u.last⟩ := by unfold go; rw [es, eth]
                    have hq8 : H8 q = some (.lst (nats sk.run)) := h8.hq
                    have hr8 : H8 r = some (.lst (sk.kinds.map kindH)) := h8.hr
                    obtain ⟨xs8, hp8, hx8⟩ := h8.hp
                    have lnat : ∀ l : List Nat, (nats l).length = l.length := fun l => List.length_map _
                    refine ⟨_, rfl, Or.inl ⟨rfl, _, SqL.of g8.hg⟩, _, rfl, r, _, rfl, .inl (SqL.of hr8), g, _, _, rfl, rfl, g8.hg, small1000 (by rw [lnat]; omega), ?_⟩
                    rw [List.length_map]
                    have hq9 : upd H8 g (.lst (nats sk.ths ++ [V.int (sk.kinds.length : Nat)])) q = some (.lst (nats sk.run)) := by rw [upd_ne g8.df.2.1.symm]; exact hq8
                    have hr9 : upd H8 g (.lst (nats sk.ths ++ [V.int (sk.kinds.length : Nat)])) r = some (.lst (sk.kinds.map kindH)) := by rw [upd_ne g8.df.2.2.symm]; exact hr8
                    have hp9 : upd H8 g (.lst (nats sk.ths ++ [V.int (sk.kinds.length : Nat)])) p = some (.lst xs8) := by rw [upd_ne g8.df.1.symm]; exact hp8
                    have hg9 : upd H8 g (.lst (nats sk.ths ++ [V.int (sk.kinds.length : Nat)])) g = some (.lst (nats sk.ths ++ [V.int (sk.kinds.length : Nat)])) := upd_same
                    have sm9 : Same H (upd H8 g (.lst (nats sk.ths ++ [V.int (sk.kinds.length : Nat)]))) := fun x y hx => by rw [upd_ne (ne_of_none hx g8.new)]; exact h8.sm x y hx
                    have T9 : ∀ c zs, SqT K H8 c zs → SqT K (upd H8 g (.lst (nats sk.ths ++ [V.int (sk.kinds.length : Nat)]))) c zs := fun c zs hz => updT g8.hg hz
                    generalize upd H8 g (.lst (nats sk.ths ++ [V.int (sk.kinds.length : Nat)])) = H9 at hq9 hr9 hp9 hg9 sm9 T9
                    refine ⟨_, rfl, Or.inl ⟨rfl, _, SqL.of hq9⟩, _, rfl, r, _, rfl, .inl (SqL.of hr9), q, _, _, rfl, rfl, hq9, small1000 (by rw [lnat]; omega), ?_⟩
                    rw [List.length_map]
                    have hr10 : upd H9 q (.lst (nats sk.run ++ [V.int (sk.kinds.length : Nat)])) r = some (.lst (sk.kinds.map kindH)) := by rw [upd_ne h8.df.2.2.symm]; exact hr9
                    have hp10 : upd H9 q (.lst (nats sk.run ++ [V.int (sk.kinds.length : Nat)])) p = some (.lst xs8) := by rw [upd_ne h8.df.1]; exact hp9
                    have hg10 : upd H9 q (.lst (nats sk.run ++ [V.int (sk.kinds.length : Nat)])) g = some (.lst (nats sk.ths ++ [V.int (sk.kinds.length : Nat)])) := by rw [upd_ne g8.df.2.1]; exact hg9
                    have hq10 : upd H9 q (.lst (nats sk.run ++ [V.int (sk.kinds.length : Nat)])) q = some (.lst (nats sk.run ++ [V.int (sk.kinds.length : Nat)])) := upd_same
                    have sm10 : Same H (upd H9 q (.lst (nats sk.run ++ [V.int (sk.kinds.length : Nat)]))) := fun x y hx => by rw [upd_ne (ne_of_none hx h8.new.2.1)]; exact sm9 x y hx
                    have T10 : ∀ c zs, SqT K H8 c zs → SqT K (upd H9 q (.lst (nats sk.run ++ [V.int (sk.kinds.length : Nat)]))) c zs := fun c zs hz => updT hq9 (T9 c zs hz)
                    generalize upd H9 q (.lst (nats sk.run ++ [V.int (sk.kinds.length : Nat)])) = H10 at hr10 hp10 hg10 hq10 sm10 T10
                    refine ⟨_, rfl, Or.inl ⟨rfl, _, SqL.of hr10⟩, fun dd ndd => ?_⟩
                    have Sd : Same H10 (upd (upd H10 dd (.dK [])) dd (.dK (mergeK [] [((.inr "asked" : Key), V.str "answer"), (.inr "set", V.str "rang")]))) := fun x y hx => by rw [upd_ne (ne_of_none hx ndd), upd_ne (ne_of_none hx ndd)]; exact hx
                    have hval : valV (mergeK [] [((.inr "asked" : Key), V.str "answer"), (.inr "set", V.str "rang")]) (.inr u.head : Key) = some (kindH kk) := by
                      cases u <;> simp [Tok.start?] at es <;> subst es <;> rfl
                    have hget := DGet.k (H := upd (upd H10 dd (.dK [])) dd (.dK (mergeK [] [((.inr "asked" : Key), V.str "answer"), (.inr "set", V.str "rang")]))) (a := dd) (k := (.inr u.head : Key)) upd_same
                    rw [hval] at hget
                    refine ⟨upd_same, [((.inr "asked" : Key), V.str "answer"), (.inr "set", V.str "rang")], rfl, by show 2 ≤ 15; decide, _, rfl, au, _, _, .str u.head, rfl, rfl, sameT Sd (T10 _ _ hau8), at0, dd, kindH kk, rfl, hget, r, _, _, rfl, rfl, Sd _ _ hr10, small1000 (by rw [List.length_map]; omega), ?_⟩
                    have T11 : ∀ c zs, SqT K H8 c zs → SqT K (upd (upd (upd H10 dd (.dK [])) dd (.dK (mergeK [] [((.inr "asked" : Key), V.str "answer"), (.inr "set", V.str "rang")]))) r (.lst (sk.kinds.map kindH ++ [kindH kk]))) c zs := fun c zs hz => updT (Sd _ _ hr10) (sameT Sd (T10 c zs hz))
                    rw [ego] at gdg ⊢
                    refine ⟨rfl, T11 _ _ hau8, ⟨fun x y hx => ?_, ⟨xs8, ?_, hx8.imp fun a b _ y => y.stay T11⟩, ?_, ?_, h8.new, h8.df, h8.len, h8.fin, ⟨gdg.sub, gdg.srt, gdg.srr, gdg.few⟩⟩, ⟨?_, g8.new, g8.df⟩⟩
                    · rw [upd_ne (ne_of_none hx h8.new.2.2)]
                      exact Sd _ _ (sm10 x y hx)
                    · rw [upd_ne h8.df.2.1]
                      exact Sd _ _ hp10
                    · rw [upd_ne h8.df.2.2, Sd _ _ hq10]
                      simp [nats]
                    · rw [upd_same, List.map_append]
                      rfl
                    · rw [upd_ne g8.df.2.2, Sd _ _ hg10]
                      simp [nats]
                · rintro σ' H8 ⟨rfl, hau8, h8, g8⟩
                  obtain ⟨xs8, hp8, hx8⟩ := h8.hp
                  have lx8 := hx8.len
                  refine ⟨_, rfl, Or.inl ⟨rfl, _, SqL.of hp8⟩, _, rfl, p, xs8, _, rfl, rfl, hp8, small1000 (by omega), ?_⟩
                  refine ⟨go sk u, hk ++ [u], _, _, rfl, ⟨fun x y hx => ?_, ⟨_, upd_same, All2.app (hx8.imp fun a b _ y => y.stay fun c zs hz => updT hp8 hz) (All2.one ⟨au, rfl, updT hp8 hau8⟩)⟩, ?_, ?_, h8.new, h8.df, ?_, ?_, gdg⟩, ⟨by rw [upd_ne g8.df.1]; exact g8.hg, g8.new, g8.df⟩, ?_, hwk2.trans hstep, (fun z => by cases z), go_kl u kl4⟩
                  · rw [upd_ne (ne_of_none hx h8.new.1)]
                    exact h8.sm x y hx
                  · rw [upd_ne h8.df.1.symm]
                    exact h8.hq
                  · rw [upd_ne h8.df.2.1.symm]
                    exact h8.hr
                  · rw [go_len, h6.len]
                    simp
                  · rw [go_fin, lastFin_app]
                  · simp
                    omega
      · obtain ⟨sk, hk, v6, v7, rfl, h4, g4, hkl, hwk, _, kl4⟩ := y
        have en : (xt.length : Int).toNat = turn.length := by omega
        rw [en] at hkl hwk
        rw [List.drop_length] at hwk
        have hwk3 : wToks true (bt si) hs (turn.map some) = some (sk, hk) := by rw [hwk]; rfl
        rw [hw2, hwk3]
        exact ⟨sk, hk, _, _, _, _, rfl, h4, by rw [hkl, hsl, take_more hlo, List.sum_append]; simp, rfl, kl4⟩
    · obtain ⟨si, hs, v4, v5, v6, v7, rfl, h2, hsl, hw, kl2⟩ := y
      have hw3 : wWalk false s0 [] (lift turns) = some hs := by
        rw [hw, el, List.drop_length]
        rfl
      have hB : lBack turns = if turns.any List.isEmpty || hs.isEmpty then none else some hs := by
        unfold lBack
        rw [hw3]
      obtain ⟨xs, hp, hxs⟩ := h2.hp
      have lx := hxs.len
      refine ⟨_, rfl, p0, rfl, ⟨_, SqL.of (h2.sm _ _ hp0)⟩, fun D nD => ?_⟩
      have hD0 : H D = none := h2.sm.free nD
      have pD : p ≠ D := ne_of_none hp nD
      refine lc_list (K := K) (a := p0) (xs := xs0) (fun i H' => ∃ es : List V, H' = upd H2 D (.lst es) ∧ (∀ x ∈ es, ∃ r, x = .ref r ∧ SqL K H r []) ∧ es.length ≤ i ∧ (es = [] ↔ (turns.take i).any List.isEmpty = false)) ⟨[], rfl, by simp, Nat.le_refl _, by simp⟩ (fun i H' _ y => ?_) (fun i x H' hi y => ?_) (fun H' y => ?_)
      · obtain ⟨es, rfl, _⟩ := y
        exact SqL.of (by rw [upd_ne (ne_of_none (h2.sm _ _ hp0) nD)]; exact h2.sm _ _ hp0)
      · obtain ⟨es, rfl, hes, lel, hiff⟩ := y
        obtain ⟨turn, ht, tr, rfl, xt, hxt, htoks⟩ := hts.get hi
        have hil : i < turns.length := (List.getElem?_eq_some_iff.mp ht).1
        have hxt2 : upd H2 D (.lst es) tr = some (.lst xt) := by
          have := h2.sm _ _ hxt
          rw [upd_ne (ne_of_none this nD)]
          exact this
        refine ⟨rfl, ?_⟩
        refine ⟨_, rfl, tr, xt, rfl, .inl (SqL.of hxt2), rfl, _, rfl, ?_⟩
        rw [dec_len]
        cases e : (xt.length == 0) with
        | true =>
          refine iteT ?_
          have hx0 : xt = [] := List.length_eq_zero_iff.mp (by simpa using e)
          have ht0 : turn = [] := List.length_eq_zero_iff.mp (by have := htoks.len; rw [hx0] at this; simpa using this.symm)
          refine ⟨_, rfl, es, upd_same, small1000 (by omega), es ++ [.ref tr], by rw [upd_upd], fun x hx => ?_, by simp; omega, ?_⟩
          · rcases List.mem_append.mp hx with y | y
            · exact hes x y
            · rw [List.mem_singleton.mp y]
              exact ⟨tr, rfl, SqL.of (by rw [hxt, hx0])⟩
          · rw [take_more ht, List.any_append, ht0]
            simp
        | false =>
          refine iteF ?_
          refine ⟨es, rfl, hes, by omega, ?_⟩
          have ht0 : turn.isEmpty = false := by
            cases turn with
            | nil =>
              have := htoks.len
              rw [List.length_eq_zero_iff.mp this] at e
              cases e
            | cons a b => rfl
          rw [take_more ht, List.any_append, hiff]
          simp [ht0]
      · obtain ⟨es, rfl, hes, lel, hiff⟩ := y
        rw [el, List.take_length] at hiff
        refine ⟨by show 0 ≤ sizeLine; decide, fun p2 np2 => ?_⟩
        have D2 : D ≠ p2 := fun z => by rw [← z, upd_same] at np2; cases np2
        have SS : Same H (upd (upd H2 D (.lst es)) p2 (.lst [])) := fun x o hx => by
          have y := h2.sm _ _ hx
          have z : upd H2 D (.lst es) x = some o := by rw [upd_ne (ne_of_none y nD)]; exact y
          rw [upd_ne (ne_of_none z np2)]
          exact z
        have hD2 : upd (upd H2 D (.lst es)) p2 (.lst []) D = some (.lst es) := by rw [upd_ne D2]; exact upd_same
        have hp2 : upd (upd H2 D (.lst es)) p2 (.lst []) p = some (.lst xs) := by
          have : upd H2 D (.lst es) p = some (.lst xs) := by rw [upd_ne pD]; exact hp
          rw [upd_ne (ne_of_none this np2)]
          exact this
        have hp22 : upd (upd H2 D (.lst es)) p2 (.lst []) p2 = some (.lst []) := upd_same
        have hxs2 : All2 (TokAt K (upd (upd H2 D (.lst es)) p2 (.lst []))) xs hs := hxs.imp fun a b _ y => (y.same (Same.new nD)).same (Same.new np2)
        generalize upd (upd H2 D (.lst es)) p2 (.lst []) = H5 at SS hD2 hp2 hp22 hxs2
        refine ⟨_, .list [], Dp.lst (SqL.of hD2) (dp_empties es fun x hx => ?_), Dp.lst (SqL.of hp22) .nil, empties_shaped _ (by omega), by decide +kernel, _, rfl, ?_⟩
        · obtain ⟨r, rfl, hr⟩ := hes x hx
          exact ⟨r, rfl, SS.seq hr⟩
        · cases ea : turns.any List.isEmpty with
          | true =>
            have hne : es ≠ [] := fun z => by
              have := hiff.mp z
              rw [ea] at this
              cases this
            have ev : (!PyData.eqv (.list (List.replicate es.length (.list []))) (.list [])) = true := by
              cases es with
              | nil => exact absurd rfl hne
              | cons a l => rfl
            refine iteT' ev ?_
            refine iteT ?_
            exact kn _ SS (by rw [hB, ea]; rfl)
          | false =>
            have hemp := hiff.mpr ea
            subst hemp
            refine iteF' (by rfl) ?_
            refine ⟨_, rfl, p, _, rfl, .inl (SqL.of hp2), rfl, _, rfl, ?_⟩
            rw [dec_len]
            cases e0 : (xs.length == 0) with
            | true =>
              refine iteT ?_
              have : hs = [] := List.length_eq_zero_iff.mp (by simp at e0; rw [e0] at lx; simpa using lx.symm)
              exact kn _ SS (by rw [hB, this]; simp)
            | false =>
              refine iteF ⟨_, rfl, ?_⟩
              have hne : hs.isEmpty = false := by
                cases hs with
                | nil => rw [lx] at e0; cases e0
                | cons a l => rfl
              exact ks _ p xs hs SS (by rw [hB, ea, hne]; rfl) h2.new.1 hp2 hxs2
end
end K13

set_option Elab.async false
set_option maxRecDepth 100000
set_option maxHeartbeats 4000000
set_option linter.all false
namespace K13
open PySem PySem.Spec PyProof.Rows L2
namespace All2
variable {α β : Type} {R : α → β → Prop}
theorem take {xs : List α} {ys : List β} (h : All2 R xs ys) : ∀ n : Nat, All2 R (xs.take n) (ys.take n) := by
  induction h with
  | nil => intro n; simpa using All2.nil
  | cons h _ ih =>
    intro n
    cases n with
    | zero => exact .nil
    | succ n => exact .cons h (ih n)
theorem drop {xs : List α} {ys : List β} (h : All2 R xs ys) : ∀ n : Nat, All2 R (xs.drop n) (ys.drop n) := by
  induction h with
  | nil => intro n; simpa using All2.nil
  | cons h t ih =>
    intro n
    cases n with
    | zero => exact .cons h t
    | succ n => exact ih n
theorem erase {xs : List α} {ys : List β} (h : All2 R xs ys) : ∀ n : Nat, All2 R (xs.eraseIdx n) (ys.eraseIdx n) := by
  induction h with
  | nil => intro n; simpa using All2.nil
  | cons h t ih =>
    intro n
    cases n with
    | zero => exact t
    | succ n => exact .cons h (ih n)
theorem set {xs : List α} {ys : List β} (h : All2 R xs ys) {x : α} {y : β} (r : R x y) : ∀ n : Nat, All2 R (xs.set n x) (ys.set n y) := by
  induction h with
  | nil => intro n; simpa using All2.nil
  | cons h t ih =>
    intro n
    cases n with
    | zero => exact .cons r t
    | succ n => exact .cons h (ih n)
theorem map {γ : Type} {R' : γ → β → Prop} {f : α → γ} {xs : List α} {ys : List β} (h : All2 R xs ys) (g : ∀ x y, R x y → R' (f x) y) : All2 R' (xs.map f) ys := by
  induction h with
  | nil => exact .nil
  | cons h _ ih => exact .cons (g _ _ h) ih
theorem map' {γ : Type} {R' : γ → β → Prop} {f : α → γ} {xs : List α} {ys : List β} (h : All2 R xs ys) (g : ∀ x y, x ∈ xs → R x y → R' (f x) y) : All2 R' (xs.map f) ys := by
  induction h with
  | nil => exact .nil
  | cons h _ ih => exact .cons (g _ _ (List.mem_cons_self ..) h) (ih fun x y hx q => g x y (List.mem_cons_of_mem _ hx) q)
end All2
theorem LT.bs {K : PySem.W.Frag} {H H' : Hp} {b c r : Addr} {ts : List Tok} (e : Bs H H' b) (B : Bg H b c) (h : LT K H r ts) : LT K H' r ts := by
  obtain ⟨xs, h1, h2⟩ := h
  have n : r ≠ b := by
    obtain ⟨_, _, _, _, _, hb, _⟩ := B
    exact ne_of h1 hb (by intro z; cases z)
  exact ⟨xs, e _ _ h1 n, h2.imp fun x y _ q => q.stay fun a zs hz => bsT e B hz⟩
/-- one of the turns changes -/
theorem turns_set {K : PySem.W.Frag} {H : Hp} {r : Addr} {xs ys : List V} {turn' : List Tok} : ∀ {ps : List Addr} {turns : List (List Tok)} {i : Nat}, All2 (LT K H) ps turns → ps.Nodup → ps[i]? = some r → H r = some (.lst xs) → All2 (TokAt K (upd H r (.lst ys))) ys turn' →
    All2 (LT K (upd H r (.lst ys))) ps (turns.set i turn')
  | _, _, i, .nil, _, hi, _, _ => by simp at hi
  | _ :: ps, _ :: turns, i, .cons h t, nd, hi, hr, hy => by
    have nd' := List.nodup_cons.mp nd
    cases i with
    | zero =>
      simp at hi
      subst hi
      exact .cons ⟨ys, upd_same, hy⟩ (t.imp fun x y hx q => LT.beside q hr fun z => nd'.1 (z ▸ hx))
    | succ i =>
      have hi' : ps[i]? = some r := by simpa using hi
      have hm := List.mem_of_getElem? hi'
      exact .cons (LT.beside h hr fun z => nd'.1 (z ▸ hm)) (turns_set t nd'.2 hi' hr hy)
abbrev rListOf (K : PySem.W.Frag) : List V → Hp → VK → Prop := fun xs H Q => ∃ p ys, xs = [V.ref p] ∧ (SqL K H p ys ∨ SqT K H p ys) ∧ ∀ l, H l = none → Q (.ref l) (upd H l (.lst ys))
def okT (turns : List (List Tok)) : Prop := ∀ turn ∈ turns, ∀ t ∈ turn, okW t
def spChanged (K : PySem.W.Frag) : Sp := fun vs H Q _ => ∃ (b c p : Addr) (rs : List Addr) (turns : List (List Tok)), vs = [.ref b, .ref p] ∧ Bg H b c ∧ TurnsAt K H p rs turns ∧ turns ≠ [] ∧ (∀ t ∈ turns, t ≠ []) ∧ okT turns ∧ turns.length ≤ 100 ∧ (turns.map List.length).sum ≤ 62 ∧
  ∀ (D : Addr) (ys : List V) (turns' : List (List Tok)) (H' : Hp), Bg H' b c → Bs H H' b → H D = none → H' D = some (.lst ys) → All2 (TurnL K H') ys turns' → okT turns' → (turns'.length ≤ 440 ∧ ∀ tn ∈ turns', tn.length ≤ 63) → (turns'.map List.length).sum ≤ 440 → Q (.ref D) H'
theorem ixN_nat {n i : Nat} (h : i < n) : ixN n (i : Int) = some i := by
  unfold ixN
  simp
  omega
theorem All2.mem {α β : Type} {R : α → β → Prop} {xs : List α} {ys : List β} (h : All2 R xs ys) {x : α} (hx : x ∈ xs) : ∃ y, y ∈ ys ∧ R x y := by
  induction h with
  | nil => cases hx
  | cons h _ ih =>
    rcases List.mem_cons.mp hx with rfl | y
    · exact ⟨_, List.mem_cons_self .., h⟩
    · obtain ⟨y, h1, h2⟩ := ih y
      exact ⟨y, List.mem_cons_of_mem _ h1, h2⟩
theorem sum_set (l : List (List Tok)) (i : Nat) (y : List Tok) : ((l.set i y).map List.length).sum ≤ (l.map List.length).sum + y.length := by
  induction l generalizing i with
  | nil => simp
  | cons x l ih =>
    cases i with
    | zero => simp; omega
    | succ i => have := ih i; rw [List.set_cons_succ]; simp only [List.map_cons, List.sum_cons]; omega
theorem sum_erase (l : List (List Tok)) (i : Nat) : ((l.eraseIdx i).map List.length).sum ≤ (l.map List.length).sum := by
  induction l generalizing i with
  | nil => simp
  | cons x l ih =>
    cases i with
    | zero => simp
    | succ i => have := ih i; simp; omega
theorem sum_put (l : List (List Tok)) (i : Nat) (y : List Tok) : ((l.take i ++ [y] ++ l.drop i).map List.length).sum = (l.map List.length).sum + y.length := by
  conv => rhs; rw [← List.take_append_drop i l]
  simp only [List.map_append, List.sum_append, List.map_cons, List.map_nil, List.sum_cons, List.sum_nil]
  omega
theorem seq_nat {n i : Nat} (h : i < n) : seqIndex? (i : Int) n = some i := by
  unfold seqIndex?
  simp
  omega
theorem and_s {A B : TT} {σ : L2.St} {H : Hp} {Q : Bool → Hp → Prop} {x y : Bool} (I : Hp → Prop) (hI : I H) (ha : ∀ Q : Bool → Hp → Prop, Q x H → A σ H Q) (hb : ∀ Q : Bool → Hp → Prop, (∀ H', I H' → Q y H') → B σ H Q) (q : ∀ H', I H' → Q (x && y) H') : tAnd A B σ H Q := by
  refine ha _ ?_
  cases x with
  | true => exact iteT (hb _ q)
  | false => exact iteF (q H hI)
structure CS (K : PySem.W.Frag) (H0 H : Hp) (b c D r : Addr) (ps : List Addr) (turns : List (List Tok)) (xt : List V) (turn : List Tok) : Prop where
  bg : Bg H b c
  bs : Bs H0 H b
  hd : H D = some (.lst (ps.map V.ref))
  hx : H r = some (.lst xt)
  hl : All2 (LT K H) ps turns
  ht : All2 (TokAt K H) xt turn
  db : D ≠ b
  rb : r ≠ b
theorem CS.to {K : PySem.W.Frag} {H0 H H' : Hp} {b c D r : Addr} {ps : List Addr} {turns : List (List Tok)} {xt : List V} {turn : List Tok} (h : CS K H0 H b c D r ps turns xt turn) (bg : Bg H' b c) (e : Bs H H' b) : CS K H0 H' b c D r ps turns xt turn :=
  ⟨bg, h.bs.trans e, e _ _ h.hd h.db, e _ _ h.hx h.rb, h.hl.imp fun _ _ _ q => LT.bs e h.bg q, h.ht.imp fun _ _ _ q => q.stay fun _ _ hz => bsT e h.bg hz, h.db, h.rb⟩
theorem CS.same {K : PySem.W.Frag} {H0 H H' : Hp} {b c D r : Addr} {ps : List Addr} {turns : List (List Tok)} {xt : List V} {turn : List Tok} (h : CS K H0 H b c D r ps turns xt turn) (e : Same H H') : CS K H0 H' b c D r ps turns xt turn := h.to (h.bg.same e) (Same.bs e)
def five : List Tok := [.set, .asked "a", .dropped 0, .rang 0, .begin "a"]
def four : List Tok := [.rang 0, .answer 0 "a", .signal "a" "b", .set]
theorem ok5 : ∀ t ∈ five ++ four, okW t := by
  have h : (five ++ four).all (fun t => t.words.all isWord) = true := by decide +kernel
  intro t ht z hz
  exact List.all_eq_true.mp (List.all_eq_true.mp h t ht) z hz
theorem withN_words (t : Tok) (n : Nat) : (t.withN n).words = t.words := by cases t <;> rfl
theorem sum_each (l : List (List Tok)) {x : List Tok} (h : x ∈ l) : x.length ≤ (l.map List.length).sum := by
  induction l with
  | nil => cases h
  | cons a l ih =>
    simp only [List.map_cons, List.sum_cons]
    rcases List.mem_cons.mp h with q | q
    · rw [q]; omega
    · have := ih q; omega
theorem CS.put {K : PySem.W.Frag} {H0 H : Hp} {b c D r : Addr} {ps : List Addr} {turns : List (List Tok)} {xt : List V} {turn : List Tok} {Q : VK} {i : Nat} {ys : List V} {turn' : List Tok}
    (k : ∀ (D : Addr) (ys : List V) (turns' : List (List Tok)) (H' : Hp), Bg H' b c → Bs H0 H' b → H0 D = none → H' D = some (.lst ys) → All2 (TurnL K H') ys turns' → okT turns' → (turns'.length ≤ 440 ∧ ∀ tn ∈ turns', tn.length ≤ 63) → (turns'.map List.length).sum ≤ 440 → Q (.ref D) H')
    (h : CS K H0 H b c D r ps turns xt turn) (few : turns.length ≤ 100) (sum : (turns.map List.length).sum ≤ 62) (okt : okT turns) (pnd : ps.Nodup) (hr0 : ps[i]? = some r) (nD : H0 D = none) (rn : H0 r = none) (rD : r ≠ D) (rc : r ≠ c)
    (y5 : All2 (TokAt K H) ys turn') (ok' : ∀ z ∈ turn', okW z) (len' : turn'.length ≤ 63) : Q (.ref D) (upd H r (.lst ys)) := by
  refine k D (ps.map V.ref) (turns.set i turn') _ (h.bg.beside h.rb rc) (fun x o hx xb => by rw [upd_ne (ne_of_none hx rn)]; exact h.bs x o hx xb) nD (by rw [upd_ne rD.symm]; exact h.hd)
    ((turns_set h.hl pnd hr0 h.hx (y5.imp fun a b _ q => q.stay fun c zs hz => updT h.hx hz)).map fun x y q => ⟨x, rfl, q⟩) (fun tn htn z hz => ?_) ⟨by rw [List.length_set]; omega, fun tn htn => ?_⟩ ?_
  · rcases List.mem_or_eq_of_mem_set htn with y | y
    · exact okt tn y z hz
    · exact ok' z (y ▸ hz)
  · rcases List.mem_or_eq_of_mem_set htn with y | y
    · have := sum_each turns y; omega
    · rw [y]; exact len'
  · have := sum_set turns i turn'
    omega
theorem CS.end' {K : PySem.W.Frag} {H0 H : Hp} {b c D r : Addr} {ps : List Addr} {turns turns' : List (List Tok)} {xt ys : List V} {turn : List Tok} {Q : VK}
    (k : ∀ (D : Addr) (ys : List V) (turns' : List (List Tok)) (H' : Hp), Bg H' b c → Bs H0 H' b → H0 D = none → H' D = some (.lst ys) → All2 (TurnL K H') ys turns' → okT turns' → (turns'.length ≤ 440 ∧ ∀ tn ∈ turns', tn.length ≤ 63) → (turns'.map List.length).sum ≤ 440 → Q (.ref D) H')
    (h : CS K H0 H b c D r ps turns xt turn) (nD : H0 D = none) (Dc : D ≠ c)
    (y5 : All2 (fun x ts => ∃ q, x = .ref q ∧ q ≠ D ∧ LT K H q ts) ys turns') (ok' : okT turns') (len' : turns'.length ≤ 440 ∧ ∀ tn ∈ turns', tn.length ≤ 63) (sum' : (turns'.map List.length).sum ≤ 440) : Q (.ref D) (upd H D (.lst ys)) := by
  refine k D ys turns' _ (h.bg.beside h.db Dc) (fun x o hx xb => by rw [upd_ne (ne_of_none hx nD)]; exact h.bs x o hx xb) nD upd_same (y5.imp fun x ts _ q => ?_) ok' len' sum'
  obtain ⟨q, rfl, h1, h2⟩ := q
  exact ⟨q, rfl, LT.beside h2 h.hd h1⟩
section
variable {P : Program} {w : World} {K : PySem.W.Frag} {mg : Str → Option Value} {base : Heap}
theorem ok_changed {f : Addr} {fd : FuncData} (F : FnP K "_law_changed" "_law_changed" s__law_changed f fd) (T : Tx w K mg) (G__law_draw : Def P w K mg base CX0 1 "_law_draw" p__law_draw spDraw) (G__law_one : Def P w K mg base CX0 2 "_law_one" p__law_one (spOne K)) : FnOk P w K mg base CX0 3 f fd p__law_changed (spChanged K) := by
  refine F.ok sc__law_changed (fun vs H Q E h => ?_) (fun cdv A outer s H vs Q E hr h => ?_)
  · obtain ⟨b, c, p, rs, turns, rfl, _⟩ := h
    rfl
  · obtain ⟨b, c, p, rs, turns, rfl, hb, hT, ne, nes, okt, few, sum, k⟩ := h
    refine ⟨_, PSs.nox (pss_cons (ps_setLc (i := 2) (own := [("_law_turn", 4)]) (g := (gName 4)) (by rfl) sc__law_changed.nd rfl rfl (sw_true rfl rfl rfl (by decide +kernel)) (pi_list (pv 1)) (blkOk_by (N := n__law_changed) (sc := defScope s__law_changed) (by decide +kernel)) (fun _ _ _ _ _ => (pg_name (i := 4) sc__law_changed.nd rfl (.inl rfl))) (fun _ _ _ _ _ => pts_nil) (fun _ _ _ _ _ => (pe_callTy (show CallR _ (.type "list") (rListOf K) from call_list_of) (by rfl) T.b_list (by decide +kernel) (pa_cons (pv 4) pa_nil))))
      (pss_cons (ps_set (i := 3) sc__law_changed.nd rfl (.inl rfl) (pe_fn G__law_draw (hr.mono (by decide)) (by rfl) pass0 (pa_cons (pv 0) (pa_cons (pe_callB call_len_seq (by rfl) T.b_len PySem.boot_len (pa_cons (pv 2) pa_nil)) pa_nil))))
      (pss_cons (ps_set (i := 4) sc__law_changed.nd rfl (.inl rfl) (pe_ix ix_list (pv 2) (pv 3) (fun _ _ => rfl)))
      (pss_cons (ps_set (i := 5) sc__law_changed.nd rfl (.inl rfl) (pe_fn G__law_draw (hr.mono (by decide)) (by rfl) pass0 (pa_cons (pv 0) (pa_cons (pe_callB call_len_seq (by rfl) T.b_len PySem.boot_len (pa_cons (pv 4) pa_nil)) pa_nil))))
      (pss_cons (ps_set (i := 6) sc__law_changed.nd rfl (.inl rfl) (pe_fn G__law_draw (hr.mono (by decide)) (by rfl) pass0 (pa_cons (pv 0) (pa_cons pe_int pa_nil))))
      (pss_cons (ps_set (i := 7) sc__law_changed.nd rfl (.inl rfl) (pe_ix ix_list (pv 4) (pv 5) (fun _ _ => rfl)))
      (pss_cons (ps_if (pt_cmpR op_eq (pv 6) pe_int (nomark _)) (pss_one (ps_expr (pe_bm PySem.F.plainAttrs_list PySem.F.slot_list_pop PySem.F.type_list_pop mt_popAt (pv 4) (pa_cons (pv 5) pa_nil)))) (pss_one (ps_if (pt_cmpR op_eq (pv 6) pe_int (nomark _)) (pss_one (ps_expr (pe_bm PySem.F.plainAttrs_list PySem.F.slot_list_insert PySem.F.type_list_insert mt_insert (pv 4) (pa_cons (pv 5) (pa_cons (pe_fn G__law_one (hr.mono (by decide)) (by rfl) pass0 (pa_cons (pv 0) (pa_cons (pe_lst (pa_cons (pe_tup (pa_cons pe_str pa_nil)) (pa_cons (pe_tup (pa_cons pe_str (pa_cons pe_str pa_nil))) (pa_cons (pe_tup (pa_cons pe_str (pa_cons pe_int pa_nil))) (pa_cons (pe_tup (pa_cons pe_str (pa_cons pe_int pa_nil))) (pa_cons (pe_tup (pa_cons pe_str (pa_cons pe_str pa_nil))) pa_nil)))))) pa_nil))) pa_nil))))) (pss_one (ps_if (PW.pt (pw_and (pt_cmpR op_eq (pv 6) pe_int (nomark _)) (pw_and1 (pt_cmpR op_in_seq (pe_ix ix_tup (pv 7) pe_int (fun _ _ => rfl)) (pe_tup (pa_cons pe_str (pa_cons pe_str (pa_cons pe_str pa_nil)))) (by rfl))))) (pss_one (ps_asg (pe_op op_catT (pe_tup (pa_cons (pe_ix ix_tup (pv 7) pe_int (fun _ _ => rfl)) (pa_cons (pe_fn G__law_draw (hr.mono (by decide)) (by rfl) pass0 (pa_cons (pv 0) (pa_cons pe_int pa_nil))) pa_nil))) (pe_slice sl_tup (pv 7) (po_some pe_int) po_none)) (pg_sub (pv 4) (pv 5) set_list))) (pss_one (ps_if (pt_cmpR op_eq (pv 6) pe_int (nomark _)) (pss_one (ps_expr (pe_bm PySem.F.plainAttrs_list PySem.F.slot_list_pop PySem.F.type_list_pop mt_popAt (pv 2) (pa_cons (pv 3) pa_nil)))) (pss_one (ps_if (pt_cmpR op_eq (pv 6) pe_int (nomark _)) (pss_one (ps_expr (pe_bm PySem.F.plainAttrs_list PySem.F.slot_list_insert PySem.F.type_list_insert mt_insert (pv 2) (pa_cons (pv 3) (pa_cons (pv 4) pa_nil))))) (pss_one (ps_if (pt_cmpR op_eq (pv 6) pe_int (nomark _)) (pss_one (ps_expr (pe_bm PySem.F.plainAttrs_list PySem.F.slot_list_insert PySem.F.type_list_insert mt_insert (pv 2) (pa_cons (pv 3) (pa_cons (pe_lst pa_nil) pa_nil))))) (pss_one (ps_expr (pe_bm PySem.F.plainAttrs_list PySem.F.slot_list_append PySem.F.type_list_append mt_append (pv 2) (pa_cons (pe_lst (pa_cons (pe_fn G__law_one (hr.mono (by decide)) (by rfl) pass0 (pa_cons (pv 0) (pa_cons (pe_lst (pa_cons (pe_tup (pa_cons pe_str (pa_cons pe_int pa_nil))) (pa_cons (pe_tup (pa_cons pe_str (pa_cons pe_int (pa_cons pe_str pa_nil)))) (pa_cons (pe_tup (pa_cons pe_str (pa_cons pe_str (pa_cons pe_str pa_nil)))) (pa_cons (pe_tup (pa_cons pe_str pa_nil)) pa_nil))))) pa_nil))) pa_nil)) pa_nil)))))))))))))))
      (pss_one (ps_ret (pv 2)))))))))), ?_⟩
    have el := hT.2.len
    refine ⟨_, rfl, p, rfl, ⟨_, SqL.of hT.1⟩, fun D nD => ?_⟩
    refine lc_list (K := K) (a := p) (xs := rs.map V.ref) (fun i H' => ∃ ps : List Addr, Same H H' ∧ H' D = some (.lst (ps.map V.ref)) ∧ All2 (LT K H') ps (turns.take i) ∧ (∀ r ∈ ps, H r = none ∧ r ≠ D) ∧ ps.Nodup ∧ ps.length ≤ i) ⟨[], Same.new nD, upd_same, .nil, by simp, List.nodup_nil, Nat.le_refl _⟩ (fun i H' _ y => ?_) (fun i x H' hi y => ?_) (fun H' y => ?_)
    · obtain ⟨_, S, _⟩ := y
      exact S.seq (SqL.of hT.1)
    · obtain ⟨ps, S, hD, hps, hpf, pnd, pl⟩ := y
      obtain ⟨r, hr, rfl⟩ : ∃ r, rs[i]? = some r ∧ x = V.ref r := by
        rw [List.getElem?_map] at hi
        cases e : rs[i]? with
        | none => rw [e] at hi; cases hi
        | some n => rw [e] at hi; exact ⟨n, rfl, (Option.some.inj hi).symm⟩
      obtain ⟨turn, ht, xt, hxt, htoks⟩ := hT.2.get hr
      have hil : i < turns.length := (List.getElem?_eq_some_iff.mp ht).1
      refine ⟨rfl, ?_⟩
      refine tYes_ ?_
      refine iteT ?_
      refine ⟨_, rfl, r, xt, rfl, .inl (SqL.of (S _ _ hxt)), fun l nl => ?_⟩
      have Sl := Same.new (o := .lst xt) nl
      have lD : l ≠ D := fun z => by rw [z, hD] at nl; cases nl
      have hD2 := Sl _ _ hD
      refine ⟨_, hD2, small1000 (by rw [List.length_map]; omega), ps ++ [l], fun x o hx => ?_, ?_, ?_, fun x hx => ?_, ?_, by simp; omega⟩
      · rw [upd_ne (ne_of_none hx nD)]
        exact Sl _ _ (S _ _ hx)
      · rw [upd_same, List.map_append]
        rfl
      · rw [take_more ht]
        refine All2.app (hps.imp fun x y hx q => LT.beside (q.same Sl) hD2 (hpf x hx).2) (All2.one (LT.beside ⟨xt, upd_same, htoks.imp fun a b _ q => (q.same S).same Sl⟩ hD2 lD))
      · rcases List.mem_append.mp hx with y | y
        · exact hpf x y
        · rw [List.mem_singleton.mp y]
          exact ⟨S.free nl, lD⟩
      · refine List.nodup_append.mpr ⟨pnd, by simp, fun x hx y hy z => ?_⟩
        rw [List.mem_singleton.mp hy] at z
        obtain ⟨xs, q⟩ := hps.tracked hx
        exact ne_of_none q nl z
    · obtain ⟨ps, S, hD, hps, hpf, pnd, pl⟩ := y
      rw [List.length_map, el, List.take_length] at hps
      have hb1 := hb.same S
      have Db : D ≠ b := by
        obtain ⟨_, _, _, _, _, h1, _⟩ := hb
        exact (ne_of_none h1 nD).symm
      have Dc : D ≠ c := by
        obtain ⟨_, _, _, _, _, _, h1⟩ := hb
        exact (ne_of_none h1 nD).symm
      have elp := hps.len
      refine ⟨_, rfl, _, rfl, D, _, rfl, .inl (SqL.of hD), b, c, (ps.map V.ref).length, rfl, hb1, by rw [List.length_map]; omega, fun pl2 H2 hpl hb2 ho2 => ?_⟩
      rw [List.length_map] at hpl
      have tl0 : 0 < turns.length := List.length_pos_iff.mpr ne
      have hpl' : pl2 < turns.length := by omega
      have hplp : pl2 < ps.length := by omega
      have hr0 : ps[pl2]? = some ps[pl2] := List.getElem?_eq_getElem hplp
      generalize ps[pl2] = r at hr0
      have hrm := List.mem_of_getElem? hr0
      obtain ⟨turn, hturn, hlt⟩ := hps.get hr0
      have htm := List.mem_of_getElem? hturn
      have hD2 : H2 D = some (.lst (ps.map V.ref)) := by rw [ho2 D Db]; exact hD
      have hps2 : All2 (LT K H2) ps turns := hps.imp fun x y _ q => LT.bs ho2.bs hb1 q
      refine ⟨_, rfl, _, rfl, D, _, _, .ref r, rfl, rfl, SqL.of hD2, atI_nat (by rw [List.getElem?_map, hr0]; rfl), ?_⟩
      obtain ⟨xt, hxt, htoks⟩ := LT.bs ho2.bs hb1 hlt
      have elt := htoks.len
      have lsum := sum_take (l := turns.map List.length) (i := pl2) (x := turn.length) (by rw [List.getElem?_map, hturn]; rfl)
      refine ⟨_, rfl, _, rfl, r, _, rfl, .inl (SqL.of hxt), b, c, xt.length, rfl, hb2, by omega, fun at_ H3 hat hb3 ho3 => ?_⟩
      have tne := nes turn htm
      have tl1 : 0 < turn.length := List.length_pos_iff.mpr tne
      have hat' : at_ < xt.length := by omega
      refine ⟨_, rfl, b, c, 7, rfl, hb3, by decide, fun way H4 hwy hb4 ho4 => ?_⟩
      have O24 := ho3.trans ho4
      have rb : r ≠ b := by
        obtain ⟨_, _, _, _, _, h1, _⟩ := hb2
        exact ne_of hxt h1 (by intro z; cases z)
      have hxt4 : H4 r = some (.lst xt) := by rw [O24 r rb]; exact hxt
      have hD4 : H4 D = some (.lst (ps.map V.ref)) := by rw [O24 D Db]; exact hD2
      have hps4 : All2 (LT K H4) ps turns := hps2.imp fun x y _ q => LT.bs O24.bs hb2 q
      have htoks4 : All2 (TokAt K H4) xt turn := htoks.imp fun a b' _ q => q.stay fun c' zs hz => bsT O24.bs hb2 hz
      have bs4 : Bs H H4 b := ((Same.bs S).trans ho2.bs).trans O24.bs
      have rc : r ≠ c := by
        have := (hpf r hrm).1
        obtain ⟨_, _, _, _, _, _, h1⟩ := hb
        exact (ne_of_none h1 this).symm
      have hw7 : way < 7 := by omega
      have hva : xt[at_]? = some (xt[at_]'hat') := List.getElem?_eq_getElem hat'
      obtain ⟨t, htat, a, hav, hta⟩ := htoks4.get hva
      refine ⟨_, rfl, _, rfl, r, xt, _, _, rfl, rfl, SqL.of hxt4, atI_nat hva, ?_⟩
      rw [hav]
      have rn := (hpf r hrm).1
      have rD := (hpf r hrm).2
      have cs4 : CS K H H4 b c D r ps turns xt turn := ⟨hb4, bs4, hD4, hxt4, hps4, htoks4, Db, rb⟩
      have rn := (hpf r hrm).1
      have rD := (hpf r hrm).2
      have turnok : ∀ z ∈ turn, okW z := okt turn htm
      have lsum2 : turn.length ≤ 62 := by omega
      have each : ∀ x ∈ turns, x.length ≤ 63 := fun x hx => by have := sum_each turns hx; omega
      have lst0 : All2 (fun x ts => ∃ q, x = V.ref q ∧ q ≠ D ∧ LT K H4 q ts) (ps.map V.ref) turns := hps4.map' fun x y hx q => ⟨x, rfl, (hpf x hx).2, q⟩
      -- way == 0
      refine ⟨_, rfl, rfl, _, rfl, ?_⟩
      refine ite2 (fun c0 => ?_) fun c0 => ?_
      · refine ⟨_, rfl, Or.inl ⟨rfl, _, SqL.of hxt4⟩, _, rfl, r, xt, at_, at_, _, rfl, rfl, hxt4, by omega, by omega, seq_nat hat', hva, ?_⟩
        refine ⟨_, rfl, ?_⟩
        exact cs4.put k few sum okt pnd hr0 nD rn rD rc (htoks4.erase at_) (fun z hz => turnok z (List.mem_of_mem_eraseIdx hz)) (by rw [List.length_eraseIdx]; split <;> omega)
      -- way == 1
      refine ⟨_, rfl, rfl, _, rfl, ?_⟩
      refine ite2 (fun c1 => ?_) fun c1 => ?_
      · refine ⟨_, rfl, Or.inl ⟨rfl, _, SqL.of hxt4⟩, _, rfl, _, rfl, by show 1 ≤ sizeLine; decide, fun t1 n1 => ⟨by show 2 ≤ sizeLine; decide, fun t2 n2 => ⟨by show 2 ≤ sizeLine; decide, fun t3 n3 => ⟨by show 2 ≤ sizeLine; decide, fun t4 n4 => ⟨by show 2 ≤ sizeLine; decide, fun t5 n5 => ⟨by show 5 ≤ sizeLine; decide, fun L nL => ?_⟩⟩⟩⟩⟩⟩
        have A1 := Same.new (o := .tup [V.str "set"]) n1
        have A2 := Same.new (o := .tup [V.str "asked", V.str "a"]) n2
        have A3 := Same.new (o := .tup [V.str "dropped", V.int 0]) n3
        have A4 := Same.new (o := .tup [V.str "rang", V.int 0]) n4
        have A5 := Same.new (o := .tup [V.str "begin", V.str "a"]) n5
        have A6 := Same.new (o := .lst [V.ref t1, V.ref t2, V.ref t3, V.ref t4, V.ref t5]) nL
        have cs5 := cs4.same (((((A1.trans A2).trans A3).trans A4).trans A5).trans A6)
        refine ⟨b, c, L, _, rfl, cs5.bg, SqL.of upd_same, by simp, by show 5 < 1000000; decide, fun v H6 hv hb6 ho6 => ?_⟩
        have cs6 := cs5.to hb6 ho6.bs
        have hm : All2 (TokAt K H6) [V.ref t1, V.ref t2, V.ref t3, V.ref t4, V.ref t5] five := by
          have tr : ∀ {v t}, TokAt K _ v t → TokAt K H6 v t := fun q => q.stay fun a xs hz => bsT ho6.bs cs5.bg hz
          refine .cons (tr ⟨t1, rfl, SqT.of (A6 _ _ (A5 _ _ (A4 _ _ (A3 _ _ (A2 _ _ upd_same)))))⟩) (.cons (tr ⟨t2, rfl, SqT.of (A6 _ _ (A5 _ _ (A4 _ _ (A3 _ _ upd_same))))⟩) (.cons (tr ⟨t3, rfl, SqT.of (A6 _ _ (A5 _ _ (A4 _ _ upd_same)))⟩) (.cons (tr ⟨t4, rfl, SqT.of (A6 _ _ (A5 _ _ upd_same))⟩) (.cons (tr ⟨t5, rfl, SqT.of (A6 _ _ upd_same)⟩) .nil))))
        obtain ⟨tk, htk, hvt⟩ := hm.mem hv
        refine ⟨r, xt, at_, v, rfl, rfl, cs6.hx, small1000 (by omega), by omega, by omega, ⟨_, rfl, ?_⟩⟩
        refine cs6.put (turn' := turn.take at_ ++ [tk] ++ turn.drop at_) k few sum okt pnd hr0 nD rn rD rc (All2.app (All2.app (cs6.ht.take _) (All2.one hvt)) (cs6.ht.drop _)) (fun z hz => ?_) ?_
        · rcases List.mem_append.mp hz with hz | hz
          · rcases List.mem_append.mp hz with hz | hz
            · exact turnok z (List.mem_of_mem_take hz)
            · rw [List.mem_singleton.mp hz]
              exact ok5 _ (List.mem_append_left _ htk)
          · exact turnok z (List.mem_of_mem_drop hz)
        · simp only [List.length_append, List.length_take, List.length_drop, List.length_cons, List.length_nil]
          omega
      -- way == 2
      dsimp only [gName, tIfS]
      have hta4 : SqT K H4 a (.str t.head :: t.rest) := hta
      have tok : t ∈ turn := List.mem_of_getElem? htat
      refine and_s (x := decide (V.int way = V.int 2)) (y := t.num?.isSome) (fun H5 => CS K H H5 b c D r ps turns xt turn ∧ SqT K H5 a (.str t.head :: t.rest)) ⟨cs4, hta4⟩ (fun Q q => ⟨_, rfl, rfl, _, rfl, q⟩) (fun Q q => ⟨_, rfl, a, _, _, .str t.head, rfl, rfl, hta4, at0, by show 3 ≤ sizeLine; decide, fun e ne => ⟨e, _, rfl, .inr (SqT.of upd_same), rfl, rfl, _, rfl, ?_⟩⟩) (fun H5 q => ?_)
      · have Se := Same.new (o := .tup [V.str "answer", V.str "rang", V.str "dropped"]) ne
        show Q (inV _ _) _
        rw [in_num]
        exact q _ ⟨cs4.same Se, sameT Se hta4⟩
      obtain ⟨cs5, ha5⟩ := q
      refine ite2 (fun c2 => ?_) fun c2 => ?_
      · obtain ⟨n, en⟩ : ∃ n, t.num? = some n := by
          cases e : t.num? with
          | none => rw [e] at c2; simp at c2
          | some n => exact ⟨n, rfl⟩
        have hv5 : SqT K H5 a (.str t.head :: .int n :: tail2 t) := by rw [← vals_num en]; exact ha5
        refine ⟨_, rfl, a, _, _, .str t.head, rfl, rfl, hv5, at0, _, rfl, b, c, 9, rfl, cs5.bg, by decide, fun d H6 hd hb6 ho6 => ?_⟩
        have cs6 := cs5.to hb6 ho6.bs
        have hv6 : SqT K H6 a (.str t.head :: .int n :: tail2 t) := bsT ho6.bs cs5.bg hv5
        refine ⟨by show 2 ≤ sizeLine; decide, fun u1 n1 => ?_⟩
        refine ⟨_, rfl, 2, rfl, a, _, rfl, sameT (Same.new n1) hv6, notwhole2, fun u2 n2 => ?_⟩
        rw [cut2]
        have n12 : u1 ≠ u2 := fun z => by rw [← z, upd_same] at n2; cases n2
        have Sx1 := Same.new (o := .tup [V.str t.head, V.int d]) n1
        have Sx2 := Sx1.trans (Same.new (o := .tup (tail2 t)) n2)
        have ev := vals_with en d
        have ow : ∀ z ∈ turn.set at_ (t.withN d), okW z := fun z hz => by
          rcases List.mem_or_eq_of_mem_set hz with y | y
          · exact turnok z y
          · rw [y]
            intro x hx
            rw [withN_words] at hx
            exact turnok t tok x hx
        refine ⟨u1, u2, _, _, rfl, rfl, SqT.of (by rw [upd_ne n12]; exact upd_same), SqT.of upd_same, by simp, ?_, fun z => ?_, fun _ u3 n3 => ?_⟩
        · have := tail2_len t
          rw [sizeLine_eq]
          simp only [List.length_cons, List.length_nil]
          omega
        · have cs7 := cs6.same Sx2
          refine ⟨_, rfl, _, rfl, r, xt, _, _, rfl, rfl, cs7.hx, ixN_nat hat', ⟨_, rfl, ?_⟩⟩
          refine cs7.put k few sum okt pnd hr0 nD rn rD rc (cs7.ht.set ⟨u1, rfl, ?_⟩ at_) ow (by rw [List.length_set]; omega)
          rw [ev, z]
          exact SqT.of (by rw [upd_ne n12]; exact upd_same)
        · have cs7 := cs6.same (Sx2.trans (Same.new (o := .tup ([V.str t.head, V.int d] ++ tail2 t)) n3))
          refine ⟨_, rfl, _, rfl, r, xt, _, _, rfl, rfl, cs7.hx, ixN_nat hat', ⟨_, rfl, ?_⟩⟩
          refine cs7.put k few sum okt pnd hr0 nD rn rD rc (cs7.ht.set ⟨u3, rfl, ?_⟩ at_) ow (by rw [List.length_set]; omega)
          rw [ev]
          exact SqT.of upd_same
      have lst5 : All2 (fun x ts => ∃ q, x = V.ref q ∧ q ≠ D ∧ LT K H5 q ts) (ps.map V.ref) turns := cs5.hl.map' fun x y hx q => ⟨x, rfl, (hpf x hx).2, q⟩
      have hdl : (ps.map V.ref).length < sizeLine := small1000 (by rw [List.length_map]; omega)
      have hpq : pl2 < (ps.map V.ref).length := by rw [List.length_map]; omega
      -- way == 3
      refine ⟨_, rfl, rfl, _, rfl, ?_⟩
      refine ite2 (fun c3 => ?_) fun c3 => ?_
      · refine ⟨_, rfl, Or.inl ⟨rfl, _, SqL.of cs5.hd⟩, _, rfl, D, _, pl2, pl2, _, rfl, rfl, cs5.hd, by omega, by omega, seq_nat hpq, List.getElem?_eq_getElem hpq, ⟨_, rfl, ?_⟩⟩
        refine cs5.end' k nD Dc (lst5.erase pl2) (fun x hx => okt x (List.mem_of_mem_eraseIdx hx)) ⟨by rw [List.length_eraseIdx]; split <;> omega, fun x hx => each x (List.mem_of_mem_eraseIdx hx)⟩ ?_
        have := sum_erase turns pl2
        omega
      -- way == 4
      refine ⟨_, rfl, rfl, _, rfl, ?_⟩
      refine ite2 (fun c4 => ?_) fun c4 => ?_
      · refine ⟨_, rfl, Or.inl ⟨rfl, _, SqL.of cs5.hd⟩, _, rfl, _, rfl, D, _, pl2, _, rfl, rfl, cs5.hd, hdl, by omega, by omega, ⟨_, rfl, ?_⟩⟩
        refine cs5.end' (turns' := turns.take pl2 ++ [turn] ++ turns.drop pl2) k nD Dc (All2.app (All2.app (lst5.take _) (All2.one ⟨r, rfl, rD, xt, cs5.hx, cs5.ht⟩)) (lst5.drop _)) (fun x hx => ?_) ?_ ?_
        · rcases List.mem_append.mp hx with hx | hx
          · rcases List.mem_append.mp hx with hx | hx
            · exact okt x (List.mem_of_mem_take hx)
            · rw [List.mem_singleton.mp hx]
              exact turnok
          · exact okt x (List.mem_of_mem_drop hx)
        · refine ⟨by simp only [List.length_append, List.length_take, List.length_drop, List.length_cons, List.length_nil]; omega, fun x hx => ?_⟩
          rcases List.mem_append.mp hx with hx | hx
          · rcases List.mem_append.mp hx with hx | hx
            · exact each x (List.mem_of_mem_take hx)
            · rw [List.mem_singleton.mp hx]; omega
          · exact each x (List.mem_of_mem_drop hx)
        · rw [sum_put]
          omega
      -- way == 5
      refine ⟨_, rfl, rfl, _, rfl, ?_⟩
      refine ite2 (fun c5 => ?_) fun c5 => ?_
      · refine ⟨_, rfl, Or.inl ⟨rfl, _, SqL.of cs5.hd⟩, _, rfl, by show 0 ≤ sizeLine; decide, fun e ne => ?_⟩
        have cs6 := cs5.same (Same.new (o := .lst []) ne)
        have lst6 : All2 (fun x ts => ∃ q, x = V.ref q ∧ q ≠ D ∧ LT K _ q ts) (ps.map V.ref) turns := cs6.hl.map' fun x y hx q => ⟨x, rfl, (hpf x hx).2, q⟩
        have eD : e ≠ D := fun z => by rw [z, cs5.hd] at ne; cases ne
        refine ⟨D, _, pl2, _, rfl, rfl, cs6.hd, hdl, by omega, by omega, ⟨_, rfl, ?_⟩⟩
        refine cs6.end' (turns' := turns.take pl2 ++ [[]] ++ turns.drop pl2) k nD Dc (All2.app (All2.app (lst6.take _) (All2.one ⟨e, rfl, eD, [], upd_same, .nil⟩)) (lst6.drop _)) (fun x hx => ?_) ?_ ?_
        · rcases List.mem_append.mp hx with hx | hx
          · rcases List.mem_append.mp hx with hx | hx
            · exact okt x (List.mem_of_mem_take hx)
            · rw [List.mem_singleton.mp hx]
              intro z hz
              cases hz
          · exact okt x (List.mem_of_mem_drop hx)
        · refine ⟨by simp only [List.length_append, List.length_take, List.length_drop, List.length_cons, List.length_nil]; omega, fun x hx => ?_⟩
          rcases List.mem_append.mp hx with hx | hx
          · rcases List.mem_append.mp hx with hx | hx
            · exact each x (List.mem_of_mem_take hx)
            · rw [List.mem_singleton.mp hx]; exact Nat.zero_le _
          · exact each x (List.mem_of_mem_drop hx)
        · rw [sum_put]
          simp only [List.length_nil]
          omega
      -- another way
      · refine ⟨_, rfl, Or.inl ⟨rfl, _, SqL.of cs5.hd⟩, _, rfl, by show 2 ≤ sizeLine; decide, fun t1 n1 => ⟨by show 3 ≤ sizeLine; decide, fun t2 n2 => ⟨by show 3 ≤ sizeLine; decide, fun t3 n3 => ⟨by show 1 ≤ sizeLine; decide, fun t4 n4 => ⟨by show 4 ≤ sizeLine; decide, fun L nL => ?_⟩⟩⟩⟩⟩
        have A1 := Same.new (o := .tup [V.str "rang", V.int 0]) n1
        have A2 := Same.new (o := .tup [V.str "answer", V.int 0, V.str "a"]) n2
        have A3 := Same.new (o := .tup [V.str "signal", V.str "a", V.str "b"]) n3
        have A4 := Same.new (o := .tup [V.str "set"]) n4
        have A5 := Same.new (o := .lst [V.ref t1, V.ref t2, V.ref t3, V.ref t4]) nL
        have cs6 := cs5.same ((((A1.trans A2).trans A3).trans A4).trans A5)
        refine ⟨b, c, L, _, rfl, cs6.bg, SqL.of upd_same, by simp, by show 4 < 1000000; decide, fun v H7 hv hb7 ho7 => ?_⟩
        have cs7 := cs6.to hb7 ho7.bs
        have hm : All2 (TokAt K H7) [V.ref t1, V.ref t2, V.ref t3, V.ref t4] four := by
          have tr : ∀ {v t}, TokAt K _ v t → TokAt K H7 v t := fun q => q.stay fun a xs hz => bsT ho7.bs cs6.bg hz
          refine .cons (tr ⟨t1, rfl, SqT.of (A5 _ _ (A4 _ _ (A3 _ _ (A2 _ _ upd_same))))⟩) (.cons (tr ⟨t2, rfl, SqT.of (A5 _ _ (A4 _ _ (A3 _ _ upd_same)))⟩) (.cons (tr ⟨t3, rfl, SqT.of (A5 _ _ (A4 _ _ upd_same))⟩) (.cons (tr ⟨t4, rfl, SqT.of (A5 _ _ upd_same)⟩) .nil)))
        obtain ⟨tk, htk, hvt⟩ := hm.mem hv
        refine ⟨by show 1 ≤ sizeLine; decide, fun e ne => ?_⟩
        have Se := Same.new (o := .lst [v]) ne
        have cs8 := cs7.same Se
        have lst8 : All2 (fun x ts => ∃ q, x = V.ref q ∧ q ≠ D ∧ LT K _ q ts) (ps.map V.ref) turns := cs8.hl.map' fun x y hx q => ⟨x, rfl, (hpf x hx).2, q⟩
        have eD : e ≠ D := fun z => by rw [z, cs7.hd] at ne; cases ne
        refine ⟨D, _, _, rfl, rfl, cs8.hd, hdl, ⟨_, rfl, ?_⟩⟩
        refine cs8.end' (turns' := turns ++ [[tk]]) k nD Dc (All2.app lst8 (All2.one ⟨e, rfl, eD, [v], upd_same, All2.one (hvt.same Se)⟩)) (fun x hx => ?_) ?_ ?_
        · rcases List.mem_append.mp hx with hx | hx
          · exact okt x hx
          · rw [List.mem_singleton.mp hx]
            intro z hz
            rw [List.mem_singleton.mp hz]
            exact ok5 _ (List.mem_append_right _ htk)
        · refine ⟨by simp only [List.length_append, List.length_cons, List.length_nil]; omega, fun x hx => ?_⟩
          rcases List.mem_append.mp hx with hx | hx
          · exact each x hx
          · rw [List.mem_singleton.mp hx]; show 1 ≤ 63; decide
        · simp only [List.map_append, List.sum_append, List.map_cons, List.map_nil, List.sum_cons, List.sum_nil, List.length_cons, List.length_nil]
          omega
end
end K13

set_option Elab.async false
set_option maxRecDepth 100000
set_option maxHeartbeats 4000000
set_option linter.all false
namespace K13
open PySem PySem.Spec PyProof.Rows L2
/-! ### the law: what its parts have in common -/
theorem last_split (acc : List (List Tok)) : ((acc.dropLast).map List.length).sum + (acc.getLastD []).length = (acc.map List.length).sum := by
  cases acc with
  | nil => rfl
  | cons x l =>
    have h := List.dropLast_concat_getLast (l := x :: l) (by simp)
    have e : (x :: l).getLastD [] = (x :: l).getLast (by simp) := by simp [List.getLastD, List.getLast?_eq_some_getLast]
    rw [e]
    conv => rhs; rw [← h]
    simp only [List.map_append, List.sum_append, List.map_cons, List.map_nil, List.sum_cons, List.sum_nil]
    omega
theorem cutOn_sum (acc : List (List Tok)) (t : Tok) : ((cutOn acc t).map List.length).sum = (acc.map List.length).sum + 1 := by
  have h := last_split acc
  unfold cutOn
  split
  · simp
  · simp only [List.map_append, List.sum_append, List.map_cons, List.map_nil, List.sum_cons, List.sum_nil, List.length_append, List.length_cons, List.length_nil]
    omega
theorem fold_sum (ts : List Tok) : ∀ acc : List (List Tok), ((ts.foldl cutOn acc).map List.length).sum = (acc.map List.length).sum + ts.length := by
  induction ts with
  | nil => intro acc; rfl
  | cons t r ih =>
    intro acc
    rw [List.foldl_cons, ih, cutOn_sum, List.length_cons]
    omega
theorem cut_sum (ts : List Tok) : ((cutAll ts).map List.length).sum = ts.length := by
  unfold cutAll
  rw [fold_sum]
  simp
def fine (acc : List (List Tok)) : Prop := ∀ turn ∈ acc, turn ≠ [] ∧ ∀ z ∈ turn, okW z
theorem cutOn_fine {acc : List (List Tok)} {t : Tok} (h : fine acc) (w : okW t) : fine (cutOn acc t) := by
  have hl : ∀ z ∈ acc.getLastD [], okW z := by
    cases e : acc.getLast? with
    | none =>
      intro z hz
      rw [List.getLastD_eq_getLast?, e] at hz
      cases hz
    | some l =>
      intro z hz
      rw [List.getLastD_eq_getLast?, e] at hz
      exact (h l (List.mem_of_getLast? e)).2 z hz
  unfold cutOn
  split
  · intro turn ht
    rcases List.mem_append.mp ht with y | y
    · exact h turn y
    · rw [List.mem_singleton.mp y]
      exact ⟨by simp, fun z hz => by rw [List.mem_singleton.mp hz]; exact w⟩
  · intro turn ht
    rcases List.mem_append.mp ht with y | y
    · exact h turn ((List.dropLast_sublist acc).subset y)
    · rw [List.mem_singleton.mp y]
      refine ⟨by simp, fun z hz => ?_⟩
      rcases List.mem_append.mp hz with q | q
      · exact hl z q
      · rw [List.mem_singleton.mp q]
        exact w
theorem fold_fine : ∀ (ts : List Tok) (acc : List (List Tok)), fine acc → (∀ t ∈ ts, okW t) → fine (ts.foldl cutOn acc)
  | [], _, h, _ => h
  | t :: r, acc, h, w => fold_fine r _ (cutOn_fine h (w t List.mem_cons_self)) fun x hx => w x (List.mem_cons_of_mem _ hx)
theorem age_okW {s : S} {t : Tok} (h : okW t) : okW (age s t) := by
  unfold age
  split
  · intro z hz
    rw [withN_words] at hz
    exact h z hz
  · exact h
theorem ageAll_okW : ∀ (ts : List Tok) (s : S), (∀ t ∈ ts, okW t) → ∀ t ∈ ageAll s ts, okW t
  | [], _, _ => by intro t ht; cases ht
  | t :: r, s, h => by
    intro u hu
    rcases List.mem_cons.mp hu with y | y
    · rw [y]
      exact age_okW (h t List.mem_cons_self)
    · exact ageAll_okW r _ (fun x hx => h x (List.mem_cons_of_mem _ hx)) u y
/-- the turns of a history -/
theorem TSs {ts : List Tok} (ne : ts ≠ []) (w : ∀ t ∈ ts, okW t) : fine (cutAll (ageAll s0 ts)) ∧ cutAll (ageAll s0 ts) ≠ [] ∧ ((cutAll (ageAll s0 ts)).map List.length).sum = ts.length ∧ (cutAll (ageAll s0 ts)).length ≤ ts.length := by
  refine ⟨fold_fine _ _ (fun _ h => by cases h) (ageAll_okW ts s0 w), fold_ne _ fun e => ne ?_, by rw [cut_sum, ageAll_len], ?_⟩
  · have := ageAll_len ts s0
    rw [e] at this
    exact List.length_eq_zero_iff.mp this.symm
  · have := cutAll_len (ageAll s0 ts)
    rw [ageAll_len] at this
    exact this
/-! ### the same -/
theorem vals_plain (t : Tok) : ∀ x ∈ t.vals, (∃ z, x = V.str z) ∨ ∃ i, x = V.int i := by
  cases t <;> simp [Tok.vals, Tok.rest, Tok.head]
theorem vals_few (t : Tok) : t.vals.length ≤ 3 := by cases t <;> simp [Tok.vals, Tok.rest]
section
variable {K : PySem.W.Frag} {H : Hp}
theorem sameTok {n : Nat} {v w : V} {t : Tok} (h : TokAt K H v t) (g : TokAt K H w t) : SameV K H (n + 2) v w := by
  obtain ⟨a, rfl, ha⟩ := h
  obtain ⟨b, rfl, hb⟩ := g
  have l := vals_few t
  refine .tup ha hb (by omega) rfl fun i x y hx hy => ?_
  rw [hx] at hy
  cases hy
  rcases vals_plain t x (List.mem_of_getElem? hx) with ⟨z, rfl⟩ | ⟨z, rfl⟩
  · exact .str z
  · exact .int z
theorem sameToks {n : Nat} {p q : Addr} {xs ys : List V} {ts : List Tok} (hp : SqL K H p xs) (hq : SqL K H q ys) (h : All2 (TokAt K H) xs ts) (g : All2 (TokAt K H) ys ts) (few : ts.length ≤ 1000) : SameV K H (n + 3) (.ref p) (.ref q) := by
  have e1 := h.len
  have e2 := g.len
  refine .lst hp hq (by omega) (by omega) fun i x y hx hy => ?_
  obtain ⟨t, ht, h1⟩ := h.get hx
  obtain ⟨u, hu, h2⟩ := g.get hy
  rw [ht] at hu
  cases hu
  exact sameTok h1 h2
theorem sameTurns {n : Nat} {p q : Addr} {rs rs' : List Addr} {ts : List (List Tok)} (h : TurnsAt K H p rs ts) (g : TurnsAt K H q rs' ts) (few : ts.length ≤ 1000) (few2 : ∀ t ∈ ts, t.length ≤ 1000) : SameV K H (n + 4) (.ref p) (.ref q) := by
  have e1 := h.2.len
  have e2 := g.2.len
  refine .lst (SqL.of h.1) (SqL.of g.1) (by rw [List.length_map]; omega) (by rw [List.length_map, List.length_map]; omega) fun i x y hx hy => ?_
  rw [List.getElem?_map] at hx hy
  obtain ⟨r, hr, rfl⟩ := Option.map_eq_some_iff.mp hx
  obtain ⟨r', hr', rfl⟩ := Option.map_eq_some_iff.mp hy
  obtain ⟨t, ht, a, ha, h1⟩ := h.2.get hr
  obtain ⟨u, hu, b, hb, h2⟩ := g.2.get hr'
  rw [ht] at hu
  cases hu
  exact sameToks (SqL.of ha) (SqL.of hb) h1 h2 (few2 t (List.mem_of_getElem? ht))
theorem sameTold {p q a b : Addr} {xs ys : List V} {ts : List Tok} (ha : SqT K H a [.str "told", .ref p]) (hb : SqT K H b [.str "told", .ref q]) (hp : SqL K H p xs) (hq : SqL K H q ys) (h : All2 (TokAt K H) xs ts) (g : All2 (TokAt K H) ys ts) (few : ts.length ≤ 1000) : SameV K H 4 (.ref a) (.ref b) := by
  refine .tup ha hb (by show 2 ≤ 1000; decide) rfl fun i x y hx hy => ?_
  match i with
  | 0 => cases hx; cases hy; exact .str _
  | 1 => cases hx; cases hy; exact sameToks hp hq h g few
  | i + 2 => simp at hx
theorem sameRefused {a b : Addr} (ha : SqT K H a [.str "refused", .str "turns"]) (hb : SqT K H b [.str "refused", .str "turns"]) : SameV K H 4 (.ref a) (.ref b) := by
  refine .tup ha hb (by decide) rfl fun i x y hx hy => ?_
  match i with
  | 0 => cases hx; cases hy; exact .str _
  | 1 => cases hx; cases hy; exact .str _
  | i + 2 => simp at hx
/-! ### data of a history -/
def dat : V → PyData
  | .str z => .str z | .int i => .int i | _ => .none
def tdat (t : Tok) : PyData := .tuple (t.vals.map dat)
theorem dpVals : ∀ xs : List V, (∀ x ∈ xs, (∃ z, x = V.str z) ∨ ∃ i, x = V.int i) → DpAll K H xs (xs.map dat)
  | [], _ => .nil
  | x :: r, h => by
    refine .cons ?_ (dpVals r fun y hy => h y (List.mem_cons_of_mem _ hy))
    rcases h x List.mem_cons_self with ⟨z, rfl⟩ | ⟨z, rfl⟩
    · exact .str z
    · exact .int z
theorem dpToks {xs : List V} {ts : List Tok} (h : All2 (TokAt K H) xs ts) : DpAll K H xs (ts.map tdat) := by
  induction h with
  | nil => exact .nil
  | cons h _ ih =>
    rename_i t _ _
    obtain ⟨a, rfl, ha⟩ := h
    exact .cons (.tup ha (dpVals _ (vals_plain _))) ih
end
theorem low_lt {c : Nat} (h : lowC c = true) : c < 0x110000 := by
  unfold lowC at h
  rw [Bool.and_eq_true] at h
  have h2 := h.2
  have ez : ("z" : Str).cps.toList = [122] := by decide +kernel
  rw [ez] at h2
  rcases Nat.lt_or_ge c 0x110000 with y | y
  · exact y
  · have q : [122] < (⟨#[c]⟩ : Str).cps.toList := List.Lex.rel (by omega)
    rw [decide_eq_true q] at h2
    cases h2
theorem word_ok {z : Str} (h : isWord z = true) : PyData.strOk z = true := by
  unfold isWord at h
  rw [Bool.and_eq_true] at h
  have h2 := h.2
  unfold PyData.strOk
  rw [← Array.all_toList, List.all_eq_true]
  intro c hc
  rw [List.all_map, List.all_eq_true] at h2
  exact decide_eq_true (low_lt (h2 c hc))
theorem heads_ok : (["begin", "answer", "rang", "signal", "asked", "set", "dropped", "noted", "marked", "ended", "anew"] : List Str).all PyData.strOk = true := by decide +kernel
theorem head_ok (t : Tok) : PyData.strOk t.head = true := by
  refine List.all_eq_true.mp heads_ok _ ?_
  cases t <;> simp [Tok.head]
theorem tdat_lay (t : Tok) (w : okW t) : PyData.canLay0 (tdat t) = true := by
  have h := head_ok t
  have e : PyData.canLay0 (tdat t) = (PyData.strOk t.head && PyData.canLayAll0 (t.rest.map dat)) := by simp [tdat, Tok.vals, dat, PyData.canLay0, PyData.canLayAll0]
  rw [e, h, Bool.true_and]
  cases t <;> simp [Tok.rest, dat, PyData.canLay0, PyData.canLayAll0]
  all_goals first
    | exact ⟨word_ok (w _ (by simp [Tok.words])), word_ok (w _ (by simp [Tok.words]))⟩
    | exact word_ok (w _ (by simp [Tok.words]))
theorem tdat_depth (t : Tok) : PyData.depth (tdat t) ≤ 2 := by cases t <;> simp [tdat, Tok.vals, Tok.rest, Tok.head, dat, PyData.depth, PyData.depthAll]
theorem tdat_eqv (t : Tok) : PyData.eqv (tdat t) (tdat t) = true := by cases t <;> simp [tdat, Tok.vals, Tok.rest, Tok.head, dat, PyData.eqv, PyData.eqvAll]
theorem toks_lay : ∀ ts : List Tok, (∀ t ∈ ts, okW t) → PyData.canLayAll0 (ts.map tdat) = true
  | [], _ => by simp [PyData.canLayAll0]
  | t :: r, w => by
    rw [List.map_cons, PyData.canLayAll0, toks_lay r (fun x hx => w x (List.mem_cons_of_mem _ hx)), tdat_lay t (w t List.mem_cons_self)]
    rfl
theorem toks_depth : ∀ ts : List Tok, PyData.depthAll (ts.map tdat) ≤ 3
  | [] => by simp [PyData.depthAll]
  | t :: r => by
    have := toks_depth r
    have := tdat_depth t
    simp [PyData.depthAll]
    omega
theorem toks_eqv : ∀ ts : List Tok, PyData.eqvAll (ts.map tdat) (ts.map tdat) = true
  | [] => by simp [PyData.eqvAll]
  | t :: r => by
    rw [List.map_cons, PyData.eqvAll, toks_eqv r, tdat_eqv t]
    rfl
theorem toks_shaped (ts : List Tok) (w : ∀ t ∈ ts, okW t) : SeqAt.shaped (.list (ts.map tdat)) = true := by
  have d := toks_depth ts
  unfold SeqAt.shaped
  rw [Bool.and_eq_true]
  refine ⟨?_, decide_eq_true ?_⟩
  · rw [PyData.canLay0]
    simp [toks_lay ts w]
  · rw [PyData.depth]
    omega
/-! ### values that are no turns -/
theorem walk_badO (os : List (Option Tok)) (hos : ∀ s h, wToks true s h os = none) : ∀ (ts : List (Option (List (Option Tok)))) (b : Bool) (s : S) (h : List Tok), wWalk b s h (ts ++ [some os]) = none
  | [], b, s, h => by
    show wWalk b s h [some os] = none
    unfold wWalk
    split
    · rfl
    · rw [hos]
  | none :: r, b, s, h => rfl
  | some t :: r, b, s, h => by
    show wWalk b s h (some t :: (r ++ [some os])) = none
    unfold wWalk
    split
    · rfl
    · split
      · rfl
      · exact walk_badO os hos r _ _ _
theorem back_bad (ts : List (Option (List (Option Tok)))) (os : List (Option Tok)) (hos : ∀ s h, wToks true s h os = none) : pNum (some (ts ++ [some os])) = none := by
  show pBack _ = none
  unfold pBack
  split
  · rfl
  · exact walk_badO os hos ts _ _ _
section
variable {K : PySem.W.Frag} {H H' : Hp}
def Wrong (K : PySem.W.Frag) (H : Hp) (v : V) : Prop := ∃ o, TurnsV K H v o ∧ okSz o ∧ pNum o = none
theorem Bad.same {v : V} (e : Same H H') (h : Bad K H v) : Bad K H' v := TV.same (o := none) e h
theorem TurnV.same {v : V} {o : Option (List (Option Tok))} (e : Same H H') (h : TurnV K H v o) : TurnV K H' v o := by
  cases o with
  | none => exact NotL.same e h
  | some os =>
    obtain ⟨r, xs, rfl, h1, h2⟩ := h
    exact ⟨r, xs, rfl, e _ _ h1, h2.imp fun _ _ _ q => TV.same e q⟩
theorem TurnsV.same {v : V} {o : Option (List (Option (List (Option Tok))))} (e : Same H H') (h : TurnsV K H v o) : TurnsV K H' v o := by
  cases o with
  | none => exact NotL.same e h
  | some os =>
    obtain ⟨r, xs, rfl, h1, h2⟩ := h
    exact ⟨r, xs, rfl, e _ _ h1, h2.imp fun _ _ _ q => TurnV.same e q⟩
theorem Wrong.same {v : V} (e : Same H H') (h : Wrong K H v) : Wrong K H' v := by
  obtain ⟨o, h1, h2⟩ := h
  exact ⟨o, TurnsV.same e h1, h2⟩
theorem turnV {x : V} {ts : List Tok} (h : TurnL K H x ts) (w : ∀ z ∈ ts, okW z) : TurnV K H x (some (ts.map some)) := by
  obtain ⟨r, rfl, xs, h1, h2⟩ := h
  refine ⟨r, xs, rfl, h1, ?_⟩
  clear h1
  induction h2 with
  | nil => exact .nil
  | cons h _ ih => exact .cons ⟨h, w _ List.mem_cons_self⟩ (ih fun z hz => w z (List.mem_cons_of_mem _ hz))
theorem turnsV {xs : List V} {turns : List (List Tok)} (h : All2 (TurnL K H) xs turns) (w : okT turns) : All2 (TurnV K H) xs (lift turns) := by
  induction h with
  | nil => exact .nil
  | cons h _ ih => exact .cons (turnV h (w _ List.mem_cons_self)) (ih fun x hx => w x (List.mem_cons_of_mem _ hx))
theorem okSz_lift {turns : List (List Tok)} (h1 : turns.length ≤ 440) (h2 : (turns.map List.length).sum ≤ 440) (h3 : ∀ t ∈ turns, t.length ≤ 63) : okSz (some (lift turns)) := by
  refine ⟨by rw [lift, List.length_map]; exact h1, ?_, fun o ho => ?_⟩
  · have e : (lift turns).map osLen = turns.map List.length := by
      unfold lift
      rw [List.map_map]
      refine List.map_congr_left fun t _ => ?_
      show (t.map some).length = _
      simp
    rw [e]
    exact h2
  · obtain ⟨t, ht, e⟩ := List.mem_map.mp ho
    rw [← e]
    show (t.map some).length ≤ 63
    rw [List.length_map]
    exact h3 t ht
theorem lift_len (turns : List (List Tok)) : tsLen (some (lift turns)) = (turns.map List.length).sum := by
  show ((lift turns).map osLen).sum = _
  unfold lift
  rw [List.map_map]
  congr 1
  apply List.map_congr_left
  intro t _
  show (t.map some).length = _
  simp
end
end K13

set_option Elab.async false
set_option maxRecDepth 100000
set_option maxHeartbeats 4000000
set_option linter.all false
namespace K13
open PySem PySem.Spec PyProof.Rows L2
abbrev rTupleOf (K : PySem.W.Frag) : List V → Hp → VK → Prop := fun xs H Q => ∃ p ys, xs = [.ref p] ∧ ((SqL K H p ys ∧ ∀ l, H l = none → Q (.ref l) (upd H l (.tup ys))) ∨ (SqT K H p ys ∧ Q (.ref p) H))
def spLaw (K : PySem.W.Frag) : Sp := fun vs H Q _ => ∃ (a : Addr) (ns : List Int), vs = [.ref a] ∧ SqL K H a (ns.map V.int) ∧ ns.length ≤ 63 ∧ ∀ H', Q (.bl true) H'
structure LS (K : PySem.W.Frag) (H : Hp) (b c p q h : Addr) (xs : List V) (ts : List Tok) (rs : List Addr) (TS : List (List Tok)) : Prop where
  bg : Bg H b c
  hp : H p = some (.lst xs)
  htk : All2 (TokAt K H) xs ts
  hq : TurnsAt K H q rs TS
  hh : H h = some (.lst xs)
theorem back_len {turns : List (List Tok)} {hh : List Tok} (e : lBack turns = some hh) : hh.length = (turns.map List.length).sum := by
  unfold lBack at e
  split at e
  · cases e
  · rename_i h1 e1
    split at e
    · cases e
    · cases e
      have := walk_len e1
      rw [this]
      show 0 + _ = _
      rw [Nat.zero_add]
section
variable {K : PySem.W.Frag} {H H' : Hp} {a : Addr} {xs : List V}
theorem wst {l : List V} (S : Same H H') (h : ∀ y ∈ l, Wrong K H y) : ∀ y ∈ l, Wrong K H' y := fun y hy => (h y hy).same S
theorem wad {l : List V} {x : V} (h : ∀ y ∈ l, Wrong K H y) (w : Wrong K H x) : ∀ y ∈ l ++ [x], Wrong K H y := fun y hy => by
  rcases List.mem_append.mp hy with z | z
  · exact h y z
  · rw [List.mem_singleton.mp z]
    exact w
theorem wr_non : Wrong K H .non := ⟨none, NotL.non, trivial, rfl⟩
theorem wr_str (z : Str) : Wrong K H (.str z) := ⟨none, NotL.str z, trivial, rfl⟩
theorem wr_tup (h : SqT K H a xs) : Wrong K H (.ref a) := ⟨none, NotL.tup h, trivial, rfl⟩
theorem wr_dic {kvs : List (Key × V)} (h : H a = some (.dK kvs)) : Wrong K H (.ref a) := ⟨none, NotL.dic h, trivial, rfl⟩
theorem wr_nil (h : H a = some (.lst [])) : Wrong K H (.ref a) := ⟨some [], ⟨a, [], rfl, h, .nil⟩, ⟨Nat.zero_le _, Nat.zero_le _, by simp⟩, rfl⟩
theorem wr_one {x : V} {o : Option (List (Option Tok))} (h : H a = some (.lst [x])) (hx : TurnV K H x o) (ho : osLen o ≤ 10) (hp : pBack [o] = none) : Wrong K H (.ref a) := by
  refine ⟨some [o], ⟨a, [x], rfl, h, All2.one hx⟩, ?_, hp⟩
  refine ⟨by show 1 ≤ 440; decide, by show osLen o + 0 ≤ 440; omega, fun o' h' => ?_⟩
  rw [List.mem_singleton.mp h']
  omega
theorem turn_bad {x : V} (h : H a = some (.lst [x])) (hx : Bad K H x) : TurnV K H (.ref a) (some [none]) := ⟨a, [x], rfl, h, All2.one hx⟩
theorem none_len (TS : List (List Tok)) : (((TS.map fun _ => (none : Option (List (Option Tok)))).map osLen).sum) = 0 := by
  induction TS with
  | nil => rfl
  | cons t r ih => simpa [osLen] using ih
theorem all_none : ∀ (zs : List V) (TS : List (List Tok)), (∀ x ∈ zs, NotL K H x) → zs.length = TS.length → All2 (TurnV K H) zs (TS.map fun _ => (none : Option (List (Option Tok))))
  | [], [], _, _ => .nil
  | [], _ :: _, _, e => by cases e
  | _ :: _, [], _, e => by cases e
  | x :: r, t :: u, h, e => .cons (h x List.mem_cons_self) (all_none r u (fun y hy => h y (List.mem_cons_of_mem _ hy)) (Nat.succ.inj e))
theorem wr_tups {TS : List (List Tok)} (h : H a = some (.lst xs)) (hx : All2 (TurnV K H) xs (TS.map fun _ => (none : Option (List (Option Tok))))) (ne : TS ≠ []) (few : TS.length ≤ 440) : Wrong K H (.ref a) := by
  refine ⟨some (TS.map fun _ => none), ⟨a, xs, rfl, h, hx⟩, ?_, ?_⟩
  · have := none_len TS
    refine ⟨by rw [List.length_map]; exact few, by omega, fun o' h' => ?_⟩
    obtain ⟨_, _, e⟩ := List.mem_map.mp h'
    rw [← e]
    exact Nat.zero_le _
  · cases TS with
    | nil => exact absurd rfl ne
    | cons t r => rfl
theorem wr_more {q : Addr} {rs : List Addr} {TS : List (List Tok)} {x : V} (hq : TurnsAt K H q rs TS) (okt : okT TS) (few0 : TS.length ≤ 100) (few : (TS.map List.length).sum ≤ 62) (h : H a = some (.lst (rs.map V.ref ++ [x]))) (hx : TurnV K H x (some [none])) : Wrong K H (.ref a) := by
  refine ⟨some (lift TS ++ [some [none]]), ⟨a, _, rfl, h, All2.app (turnsV (hq.2.map' fun x y _ q => ⟨x, rfl, q⟩) okt) (All2.one hx)⟩, ?_, back_bad _ _ fun _ _ => rfl⟩
  obtain ⟨q1, q2, q3⟩ := okSz_lift (turns := TS) (by omega) (by omega) (fun t ht => by have := sum_each TS ht; omega)
  refine ⟨by rw [List.length_append]; show _ + 1 ≤ 440; rw [lift, List.length_map]; omega, ?_, fun o' h' => ?_⟩
  rotate_left
  · rcases List.mem_append.mp h' with z | z
    · exact q3 o' z
    · rw [List.mem_singleton.mp z]; show 1 ≤ 63; decide
  have e := lift_len TS
  have e2 : tsLen (some (lift TS)) = ((lift TS).map osLen).sum := rfl
  rw [List.map_append, List.sum_append]
  show ((lift TS).map osLen).sum + (1 + 0) ≤ 440
  omega
end
def JD (K : PySem.W.Frag) (a b c p q h D C : Addr) (xs : List V) (ts : List Tok) (rs : List Addr) (TS : List (List Tok)) (ys : List V) (turns' : List (List Tok)) : L2.St → Hp → Prop := fun σ H => ∃ v : V, σ = [some (.ref a), some (.ref b), some (.ref p), some (.ref q), some (.ref h), some (.ref D), some (.ref C), some v, none, none, none] ∧ LS K H b c p q h xs ts rs TS ∧
  H C = some (.lst ys) ∧ All2 (TurnL K H) ys turns' ∧ ((lBack turns' = none ∧ v = .non) ∨ ∃ p' xs' hh, lBack turns' = some hh ∧ v = .ref p' ∧ H p' = some (.lst xs') ∧ All2 (TokAt K H) xs' hh)
theorem TurnL.same {K : PySem.W.Frag} {H H' : Hp} {x : V} {t : List Tok} (e : Same H H') (q : TurnL K H x t) : TurnL K H' x t := by
  obtain ⟨r, h1, h2⟩ := q
  exact ⟨r, h1, LT.same e h2⟩
theorem LS.to {K : PySem.W.Frag} {H H' : Hp} {b c p q h : Addr} {xs : List V} {ts : List Tok} {rs : List Addr} {TS : List (List Tok)} (l : LS K H b c p q h xs ts rs TS) (bg : Bg H' b c) (e : Bs H H' b) : LS K H' b c p q h xs ts rs TS := by
  have nb : ∀ x (ys : List V), H x = some (.lst ys) → x ≠ b := fun x ys hx => by
    obtain ⟨_, _, _, _, _, h1, _⟩ := l.bg
    exact ne_of hx h1 (by intro z; cases z)
  exact ⟨bg, e _ _ l.hp (nb _ _ l.hp), l.htk.imp fun _ _ _ q => q.stay fun _ _ hz => bsT e l.bg hz, ⟨e _ _ l.hq.1 (nb _ _ l.hq.1), l.hq.2.imp fun _ _ _ q => LT.bs e l.bg q⟩, e _ _ l.hh (nb _ _ l.hh)⟩
theorem LS.same {K : PySem.W.Frag} {H H' : Hp} {b c p q h : Addr} {xs : List V} {ts : List Tok} {rs : List Addr} {TS : List (List Tok)} (l : LS K H b c p q h xs ts rs TS) (e : Same H H') : LS K H' b c p q h xs ts rs TS := l.to (l.bg.same e) (Same.bs e)
section
variable {P : Program} {w : World} {K : PySem.W.Frag} {mg : Str → Option Value} {base : Heap}
theorem ok_law {f : Addr} {fd : FuncData} (F : FnP K "law" "law" s_law f fd) (T : Tx w K mg) (G__law_bag : Def P w K mg base CX0 1 "_law_bag" p__law_bag (spBag K)) (G__law_history : Def P w K mg base CX0 3 "_law_history" p__law_history (spHist K))
    (G__law_turns : Def P w K mg base CX0 1 "_law_turns" p__law_turns (spTurns K)) (G__law_same : Def P w K mg base CX0 4 "_law_same" p__law_same (spSame K 4)) (G_aged : Def P w K mg base CX0 7 "aged" p_aged (spAged K))
    (G__law_told : Def P w K mg base CX0 7 "_law_told" p__law_told (spTold K)) (G_numbered : Def P w K mg base (L2.CX P w) 6 "numbered" p_numbered (spNumbered K)) (G__law_changed : Def P w K mg base CX0 3 "_law_changed" p__law_changed (spChanged K)) (G__law_back : Def P w K mg base CX0 1 "_law_back" p__law_back (spBack K)) :
    FnOk P w K mg base CX0 8 f fd ["_law_script"] (spLaw K) := by
  refine F.ok sc_law (fun vs H Q E h => ?_) (fun cdv A outer s H vs Q E hr h => ?_)
  · obtain ⟨a, ns, rfl, _⟩ := h
    rfl
  · obtain ⟨a, ns, rfl, hn, few, k⟩ := h
    refine ⟨_, PSs.nox (pss_cons (ps_set (i := 1) sc_law.nd rfl (.inl rfl) (pe_fn G__law_bag (hr.mono (by decide)) (by rfl) pass0 (pa_cons (pv 0) pa_nil)))
      (pss_cons (ps_set (i := 2) sc_law.nd rfl (.inl rfl) (pe_fn G__law_history (hr.mono (by decide)) (by rfl) pass0 (pa_cons (pv 1) pa_nil)))
      (pss_cons (ps_set (i := 3) sc_law.nd rfl (.inl rfl) (pe_fn G__law_turns (hr.mono (by decide)) (by rfl) pass0 (pa_cons (pv 2) pa_nil)))
      (pss_cons (ps_set (i := 4) sc_law.nd rfl (.inl rfl) (pe_callTy call_list_of (by rfl) T.b_list (by decide +kernel) (pa_cons (pv 2) pa_nil)))
      (pss_cons (ps_if (PW.pt (pw_or (pt_not (pt_val (pe_fn G__law_same (hr.mono (by decide)) (by rfl) pass0 (pa_cons (pe_fn G_aged (hr.mono (by decide)) (by rfl) pass0 (pa_cons (pv 4) pa_nil)) (pa_cons (pv 3) pa_nil))))) (pw_or1 (pt_cmpR (op_neD hr.units) (pv 4) (pv 2) (nomark _))))) (pss_one (ps_ret pe_bl)) pss_nil)
      (pss_cons (ps_expr (pe_bm PySem.F.plainAttrs_list PySem.F.slot_list_append PySem.F.type_list_append mt_append (pe_ix ix_list (pe_fn G_aged (hr.mono (by decide)) (by rfl) pass0 (pa_cons (pv 4) pa_nil)) pe_int (fun _ _ => rfl)) (pa_cons (pe_tup (pa_cons pe_str pa_nil)) pa_nil)))
      (pss_cons (ps_setLc (i := 5) (own := [("_law_turn", 10)]) (g := (gName 10)) (by rfl) sc_law.nd rfl rfl (sw_true rfl rfl rfl (by decide +kernel)) (pi_list (pv 3)) (blkOk_by (N := n_law) (sc := defScope s_law) (by decide +kernel)) (fun _ _ _ _ _ => (pg_name (i := 10) sc_law.nd rfl (.inl rfl))) (fun _ _ _ _ _ => pts_nil) (fun _ _ _ _ _ => (pe_callTy (show CallR _ (.type "list") (rListOf K) from call_list_of) (by rfl) T.b_list (by decide +kernel) (pa_cons (pv 10) pa_nil))))
      (pss_cons (ps_if (PW.pt (pw_or (pt_not (pt_val (pe_fn G__law_same (hr.mono (by decide)) (by rfl) pass0 (pa_cons (pe_fn G__law_told (hr.mono (by decide)) (by rfl) pass0 (pa_cons (pv 5) pa_nil)) (pa_cons (pe_tup (pa_cons pe_str (pa_cons (pv 2) pa_nil))) pa_nil))))) (pw_or1 (pt_not (pt_val (pe_fn G__law_same (hr.mono (by decide)) (by rfl) pass0 (pa_cons (pv 5) (pa_cons (pv 3) pa_nil)))))))) (pss_one (ps_ret pe_bl)) pss_nil)
      (pss_cons (ps_expr (pe_bm0 PySem.F.plainAttrs_list PySem.F.slot_list_clear PySem.F.type_list_clear mt_clear (pe_fn G_numbered (hr.mono (by decide)) (by rfl) (passes_call (W := fun _ _ _ _ => False) takes0 (fun _ _ _ _ h => h)) (pa_cons (pv 5) pa_nil))))
      (pss_cons (ps_if (pt_not (pt_val (pe_fn G__law_same (hr.mono (by decide)) (by rfl) pass0 (pa_cons (pe_fn G_numbered (hr.mono (by decide)) (by rfl) (passes_call (W := fun _ _ _ _ => False) takes0 (fun _ _ _ _ h => h)) (pa_cons (pv 5) pa_nil)) (pa_cons (pv 2) pa_nil))))) (pss_one (ps_ret pe_bl)) pss_nil)
      (pss_cons (ps_set (i := 6) sc_law.nd rfl (.inl rfl) (pe_fn G__law_changed (hr.mono (by decide)) (by rfl) pass0 (pa_cons (pv 1) (pa_cons (pv 3) pa_nil))))
      (C8.pss_cut (ps_set (i := 7) sc_law.nd rfl (.inl rfl) (pe_fn G__law_back (hr.mono (by decide)) (by rfl) pass0 (pa_cons (pv 6) pa_nil)))
      (C8.pss_cut (ps_if (PW.pt (pw_and (pt_cmpR op_isN (pv 7) pe_non (nomark _)) (pw_and1 (pt_not (pt_val (pe_fn G__law_same (hr.mono (by decide)) (by rfl) pass0 (pa_cons (pe_fn G__law_told (hr.mono (by decide)) (by rfl) pass0 (pa_cons (pv 6) pa_nil)) (pa_cons (pe_tup (pa_cons pe_str (pa_cons pe_str pa_nil))) pa_nil)))))))) (pss_one (ps_ret pe_bl)) pss_nil)
      (C8.pss_cut (ps_if (PW.pt (pw_and (pt_cmpR op_notN (pv 7) pe_non (nomark _)) (pw_and1 (pt_not (pt_val (pe_fn G__law_same (hr.mono (by decide)) (by rfl) pass0 (pa_cons (pe_fn G__law_told (hr.mono (by decide)) (by rfl) pass0 (pa_cons (pv 6) pa_nil)) (pa_cons (pe_tup (pa_cons pe_str (pa_cons (pv 7) pa_nil))) pa_nil)))))))) (pss_one (ps_ret pe_bl)) pss_nil)
      (pss_cons (ps_set (i := 8) sc_law.nd rfl (.inl rfl) (pe_lst (pa_cons pe_non (pa_cons (pe_lst pa_nil) (pa_cons (pe_lst (pa_cons (pe_lst pa_nil) pa_nil)) (pa_cons (pe_tup pa_nil) (pa_cons pe_str (pa_cons (pe_lst (pa_cons pe_non pa_nil)) (pa_cons (pe_lst (pa_cons (pe_tup (pa_cons pe_str (pa_cons pe_str pa_nil))) pa_nil)) (pa_cons (pe_callTy call_tuple_of (by rfl) T.b_tuple (by decide +kernel) (pa_cons (pv 3) pa_nil)) (pa_cons (pe_lc (own := [("_law_turn", 10)]) (g := (gName 10)) (by rfl) sc_law.nd (pi_list (pv 3)) (blkOk_by (N := n_law) (sc := defScope s_law) (by decide +kernel)) (fun _ _ _ _ _ => (pg_name (i := 10) sc_law.nd rfl (.inl rfl))) (fun _ _ _ _ _ => pts_nil) (fun _ _ _ _ _ => (pe_callTy (show CallR _ (.type "tuple") (rTupleOf K) from call_tuple_of) (by rfl) T.b_tuple (by decide +kernel) (pa_cons (pv 10) pa_nil)))) pa_nil)))))))))))
      (pss_cons (ps_set (i := 8) sc_law.nd rfl (.inl rfl) (pe_op op_cat (pv 8) (pe_lst (pa_cons (pe_op op_cat (pv 3) (pe_lst (pa_cons (pe_lst (pa_cons (pe_tup (pa_cons pe_str (pa_cons pe_bl pa_nil))) pa_nil)) pa_nil))) (pa_cons (pe_op op_cat (pv 3) (pe_lst (pa_cons (pe_lst (pa_cons (pe_tup (pa_cons pe_str (pa_cons pe_str (pa_cons pe_str pa_nil)))) pa_nil)) pa_nil))) (pa_cons (pe_lst (pa_cons (pe_lst (pa_cons (pe_tup (pa_cons pe_str pa_nil)) pa_nil)) pa_nil)) (pa_cons pe_dnewK (pa_cons (pe_lst (pa_cons (pe_lst (pa_cons (pe_lst (pa_cons pe_str (pa_cons pe_str pa_nil))) pa_nil)) pa_nil)) pa_nil))))))))
      (pss_cons (ps_for PassesOwn.never rfl (pi_list (pv 8)) (pg_name (i := 9) sc_law.nd rfl (.inl rfl)) (pss_one (ps_if (pt_not (pt_val (pe_fn G__law_same (hr.mono (by decide)) (by rfl) pass0 (pa_cons (pe_fn G__law_told (hr.mono (by decide)) (by rfl) pass0 (pa_cons (pv 9) pa_nil)) (pa_cons (pe_tup (pa_cons pe_str (pa_cons pe_str pa_nil))) pa_nil))))) (pss_one (ps_ret pe_bl)) pss_nil)))
      (pss_one (ps_ret (pe_fn G__law_same (hr.mono (by decide)) (by rfl) pass0 (pa_cons (pe_fn G_aged (hr.mono (by decide)) (by rfl) pass0 (pa_cons (pv 4) pa_nil)) (pa_cons (pv 3) pa_nil)))))))))))))))))))))), ?_⟩
    refine ⟨_, rfl, a, ns, rfl, hn, few, fun b c H1 S1 nb nc hb => ?_⟩
    refine ⟨_, rfl, b, c, rfl, hb, fun p xs ts H2 hb2 bs2 np hp htk ne vl ow few2 => ?_⟩
    obtain ⟨fi, nt, sm, ln⟩ := TSs ne ow
    refine ⟨_, rfl, p, xs, ts, rfl, SqL.of hp, htk, ne, vl, by omega, fun H3 q rs S3 fr hq => ?_⟩
    have rt := round_trip ne vl
    generalize eTS : cutAll (ageAll s0 ts) = TS at fi nt sm ln hq rt
    have each : ∀ t ∈ TS, t.length ≤ 1000 := fun t ht => by
      obtain ⟨i, hi⟩ := List.mem_iff_getElem?.mp ht
      have := sum_take (l := TS.map List.length) (i := i) (x := t.length) (by rw [List.getElem?_map, hi]; rfl)
      omega
    have lxs := htk.len
    -- handed
    refine ⟨_, rfl, p, xs, rfl, .inl (SqL.of (S3 _ _ hp)), fun h nh => ?_⟩
    have Sh := Same.new (o := .lst xs) nh
    have ls : LS K (upd H3 h (.lst xs)) b c p q h xs ts rs TS := ⟨(hb2.same S3).same Sh, Sh _ _ (S3 _ _ hp), htk.imp fun _ _ _ y => (y.same S3).same Sh, hq.same Sh, upd_same⟩
    generalize upd H3 h (.lst xs) = H4 at ls
    -- aged
    refine ⟨_, rfl, h, xs, ts, rfl, SqL.of ls.hh, ls.htk, ne, vl, ow, by omega, fun H5 p5 rs5 S5 fr5 hp5 => ?_⟩
    rw [eTS] at hp5
    have ls5 := ls.same S5
    refine ⟨_, rfl, _, _, rfl, sameTurns hp5 ls5.hq (by omega) each, fun H6 S6 => ⟨_, rfl, iteF ?_⟩⟩
    have ls6 := ls5.same S6
    have D6 := dpToks ls6.htk
    have sh6 := toks_shaped ts ow
    refine ⟨_, rfl, _, rfl, _, _, .lst (SqL.of ls6.hh) D6, .lst (SqL.of ls6.hp) D6, sh6, sh6, _, rfl, ?_⟩
    refine iteF' (by show (!PyData.eqv (.list _) (.list _)) = false; rw [PyData.eqv, toks_eqv ts]; rfl) ?_
    -- aged(handed)[0].append
    refine ⟨_, rfl, h, xs, ts, rfl, SqL.of ls6.hh, ls6.htk, ne, vl, ow, by omega, fun H7 p7 rs7 S7 fr7 hp7 => ?_⟩
    rw [eTS] at hp7
    obtain ⟨r0, hr0⟩ : ∃ r0, rs7[0]? = some r0 := by
      have e1 := hp7.2.len
      have e2 : 0 < TS.length := List.length_pos_iff.mpr nt
      exact ⟨rs7[0]'(by omega), List.getElem?_eq_getElem _⟩
    obtain ⟨turn0, ht0, x0, hx0, htk0⟩ := hp7.2.get hr0
    have l0 := each turn0 (List.mem_of_getElem? ht0)
    have el0 := htk0.len
    have nr0 := fr7.2.1 r0 (List.mem_of_getElem? hr0)
    refine ⟨p7, _, _, .ref r0, rfl, rfl, SqL.of hp7.1, (show atI (rs7.map V.ref) ((0 : Nat) : Int) = some (V.ref r0) from atI_nat (by rw [List.getElem?_map, hr0]; rfl)), Or.inl ⟨rfl, _, SqL.of hx0⟩, by show 1 ≤ sizeLine; decide, fun t1 n1 => ⟨r0, x0, _, rfl, rfl, Same.new n1 _ _ hx0, small1000 (by omega), ?_⟩⟩
    have S8 : Same H6 (upd (upd H7 t1 (.tup [V.str "set"])) r0 (.lst (x0 ++ [V.ref t1]))) := fun x o hx => by
      rw [upd_ne (ne_of_none hx nr0)]
      exact Same.new n1 _ _ (S7 _ _ hx)
    have ls8 := ls6.same S8
    generalize upd (upd H7 t1 (.tup [V.str "set"])) r0 (.lst (x0 ++ [V.ref t1])) = H8 at ls8
    -- given
    refine ⟨_, rfl, q, rfl, ⟨_, SqL.of ls8.hq.1⟩, fun D nD => ?_⟩
    have el := ls8.hq.2.len
    refine lc_list (K := K) (a := q) (xs := rs.map V.ref) (fun i H' => ∃ ps : List Addr, Same H8 H' ∧ H' D = some (.lst (ps.map V.ref)) ∧ All2 (LT K H') ps (TS.take i) ∧ (∀ r ∈ ps, r ≠ D) ∧ ps.length ≤ i) ⟨[], Same.new nD, upd_same, .nil, by simp, Nat.le_refl _⟩ (fun i H' _ y => ?_) (fun i x H' hi y => ?_) (fun H9 y => ?_)
    · obtain ⟨_, S, _⟩ := y
      exact S.seq (SqL.of ls8.hq.1)
    · obtain ⟨ps, S, hD, hps, hpD, pl⟩ := y
      obtain ⟨r, hr, rfl⟩ : ∃ r, rs[i]? = some r ∧ x = V.ref r := by
        rw [List.getElem?_map] at hi
        obtain ⟨n, h1, h2⟩ := Option.map_eq_some_iff.mp hi
        exact ⟨n, h1, h2.symm⟩
      obtain ⟨turn, ht, xt, hxt, htoks⟩ := ls8.hq.2.get hr
      have hil : i < TS.length := (List.getElem?_eq_some_iff.mp ht).1
      refine ⟨rfl, ?_⟩
      refine tYes_ ?_
      refine iteT ?_
      refine ⟨_, rfl, r, xt, rfl, .inl (SqL.of (S _ _ hxt)), fun l nl => ?_⟩
      have Sl := Same.new (o := .lst xt) nl
      have lD : l ≠ D := fun z => by rw [z, hD] at nl; cases nl
      have hD2 := Sl _ _ hD
      refine ⟨_, hD2, small1000 (by rw [List.length_map]; omega), ps ++ [l], fun x o hx => ?_, ?_, ?_, fun x hx => ?_, by simp; omega⟩
      · rw [upd_ne (ne_of_none hx nD)]
        exact Sl _ _ (S _ _ hx)
      · rw [upd_same, List.map_append]
        rfl
      · rw [take_more ht]
        exact All2.app (hps.imp fun x y hx q => LT.beside (q.same Sl) hD2 (hpD x hx)) (All2.one (LT.beside ⟨xt, upd_same, htoks.imp fun a b _ q => (q.same S).same Sl⟩ hD2 lD))
      · rcases List.mem_append.mp hx with y | y
        · exact hpD x y
        · rw [List.mem_singleton.mp y]
          exact lD
    · obtain ⟨ps, S9, hD9, hps, _, pl⟩ := y
      rw [List.length_map, el, List.take_length] at hps
      have ls9 := ls8.same S9
      have okt : okT TS := fun x hx => (fi x hx).2
      have len440 : okSz (some (lift TS)) := okSz_lift (by omega) (by omega) (fun t ht => by have := sum_each TS ht; omega)
      have TLs : ∀ H', Same H9 H' → TurnsAt K H' D ps TS := fun H' S => ⟨S _ _ hD9, hps.imp fun _ _ _ q => LT.same S q⟩
      have TVs : ∀ H', Same H9 H' → TurnsV K H' (.ref D) (some (lift TS)) := fun H' S => ⟨D, _, rfl, S _ _ hD9, turnsV ((TLs H' S).2.map' fun x y _ q => ⟨x, rfl, q⟩) okt⟩
      have pn : pNum (some (lift TS)) = some ts := rt
      -- told
      refine ⟨_, rfl, .ref D, _, rfl, TVs _ fun _ _ h => h, len440, fun a1 H10 S10 na1 hm => ?_⟩
      rw [pn] at hm
      obtain ⟨p1, xs1, ha1, np1, hp1, hxs1⟩ := hm
      have ls10 := ls9.same S10
      refine ⟨_, rfl, by show 2 ≤ sizeLine; decide, fun u1 nu1 => ?_⟩
      have Su := Same.new (o := .tup [V.str "told", V.ref p]) nu1
      have ls11 := ls10.same Su
      refine ⟨_, _, rfl, sameTold (SqT.of (Su _ _ ha1)) (SqT.of upd_same) (SqL.of (Su _ _ hp1)) (SqL.of ls11.hp) (hxs1.imp fun _ _ _ q => q.same Su) ls11.htk (by omega), fun H12 S12 => ⟨_, rfl, iteF ?_⟩⟩
      have ls12 := ls11.same S12
      have S912 : Same H9 H12 := (S10.trans Su).trans S12
      refine ⟨_, rfl, _, rfl, _, _, rfl, sameTurns (TLs _ S912) ls12.hq (by omega) each, fun H13 S13 => ⟨_, rfl, iteF ?_⟩⟩
      have ls13 := ls12.same S13
      have S913 := S912.trans S13
      -- numbered(given).clear()
      refine ⟨_, rfl, .ref D, _, rfl, TVs _ S913, len440, fun us hu p2 H14 xs2 S14 np2 hp2 hx2 => ?_, fun z => by rw [pn] at z; cases z⟩
      refine ⟨Or.inl ⟨rfl, _, SqL.of hp2⟩, p2, _, rfl, rfl, hp2, ?_⟩
      have S15 : Same H13 (upd H14 p2 (.lst [])) := fun x o hx => by
        rw [upd_ne (ne_of_none hx np2)]
        exact S14 _ _ hx
      have ls15 := ls13.same S15
      have S915 := S913.trans S15
      generalize upd H14 p2 (.lst []) = H15 at ls15 S915
      -- numbered(given)
      refine ⟨_, rfl, .ref D, _, rfl, TVs _ S915, len440, fun us hu p3 H16 xs3 S16 np3 hp3 hx3 => ?_, fun z => by rw [pn] at z; cases z⟩
      rw [pn] at hu
      cases hu
      have ls16 := ls15.same S16
      refine ⟨_, rfl, _, _, rfl, sameToks (n := 1) (SqL.of hp3) (SqL.of ls16.hp) hx3 ls16.htk (by omega), fun H17 S17 => ⟨_, rfl, iteF ?_⟩⟩
      have ls17 := ls16.same S17
      -- changed
      refine ⟨_, rfl, _, rfl, b, c, q, rs, TS, rfl, ls17.bg, ls17.hq, nt, fun t ht => (fi t ht).1, okt, by omega, by omega, fun C ys turns' H18 bg18 bs18 nC hC hys ok' few' sum' => ?_⟩
      have ls18 := ls17.to bg18 bs18
      have len2 : okSz (some (lift turns')) := okSz_lift few'.1 sum' few'.2
      have pn2 : pNum (some (lift turns')) = lBack turns' := pBack_lift turns'
      refine ⟨JD K a b c p q h D C xs ts rs TS ys turns', ?_, ?_⟩
      · refine ⟨_, rfl, C, ys, turns', rfl, hC, hys, sum', few'.1, fun H19 S19 e => ?_, fun H19 p' xs' hh S19 e np hp' hx' => ?_⟩
        · exact ⟨_, rfl, ls18.same S19, S19 _ _ hC, hys.imp fun _ _ _ q => q.same S19, .inl ⟨e, rfl⟩⟩
        · exact ⟨_, rfl, ls18.same S19, S19 _ _ hC, hys.imp fun _ _ _ q => q.same S19, .inr ⟨p', xs', hh, e, rfl, hp', hx'⟩⟩
      clear ls18 hC hys bg18 bs18 ls17 ls16 hx3 hp3 ls15 ls13 ls12 ls11 ls10 hxs1 hp1 ha1 TVs TLs ls9 hps hD9
      rintro σ H19 ⟨v, rfl, ls19, hC, hys, hv⟩
      -- refused
      refine ⟨JD K a b c p q h D C xs ts rs TS ys turns', ?_, ?_⟩
      · rcases hv with ⟨e, rfl⟩ | ⟨p', xs', hh, e, rfl, hp', hx'⟩
        · refine ⟨_, rfl, rfl, _, rfl, iteT ?_⟩
          refine ⟨_, rfl, .ref C, some (lift turns'), rfl, ⟨C, ys, rfl, hC, turnsV hys ok'⟩, len2, fun a1 H20 S20 na1 hm => ?_⟩
          rw [pn2, e] at hm
          refine ⟨by show 2 ≤ sizeLine; decide, fun u1 nu1 => ?_⟩
          have Su := Same.new (o := .tup [V.str "refused", V.str "turns"]) nu1
          refine ⟨_, _, rfl, sameRefused (SqT.of (Su _ _ hm)) (SqT.of upd_same), fun H21 S21 => ⟨_, rfl, iteF ?_⟩⟩
          have S := (S20.trans Su).trans S21
          exact ⟨_, rfl, ls19.same S, S _ _ hC, hys.imp fun _ _ _ q => q.same S, .inl ⟨e, rfl⟩⟩
        · refine ⟨_, rfl, rfl, _, rfl, iteF (iteF ?_)⟩
          exact ⟨_, rfl, ls19, hC, hys, .inr ⟨p', xs', hh, e, rfl, hp', hx'⟩⟩
      clear ls19 hC hys hv
      rintro σ H20 ⟨v, rfl, ls20, hC, hys, hv⟩
      -- told
      refine ⟨JD K a b c p q h D C xs ts rs TS ys turns', ?_, ?_⟩
      · rcases hv with ⟨e, rfl⟩ | ⟨p', xs', hh, e, rfl, hp', hx'⟩
        · refine ⟨_, rfl, rfl, _, rfl, iteF (iteF ?_)⟩
          exact ⟨_, rfl, ls20, hC, hys, .inl ⟨e, rfl⟩⟩
        · refine ⟨_, rfl, rfl, _, rfl, iteT ?_⟩
          refine ⟨_, rfl, .ref C, some (lift turns'), rfl, ⟨C, ys, rfl, hC, turnsV hys ok'⟩, len2, fun a1 H21 S21 na1 hm => ?_⟩
          rw [pn2, e] at hm
          obtain ⟨p1, xs1, ha1, np1, hp1, hxs1⟩ := hm
          refine ⟨_, rfl, by show 2 ≤ sizeLine; decide, fun u1 nu1 => ?_⟩
          have Su := Same.new (o := .tup [V.str "told", V.ref p']) nu1
          have S22 := S21.trans Su
          have lb := back_len e
          refine ⟨_, _, rfl, sameTold (SqT.of (Su _ _ ha1)) (SqT.of upd_same) (SqL.of (Su _ _ hp1)) (SqL.of (S22 _ _ hp')) (hxs1.imp fun _ _ _ q => q.same Su) (hx'.imp fun _ _ _ q => q.same S22) (by omega), fun H23 S23 => ⟨_, rfl, iteF ?_⟩⟩
          have S := S22.trans S23
          exact ⟨_, rfl, ls20.same S, S _ _ hC, hys.imp fun _ _ _ q => q.same S, .inr ⟨p', xs', hh, e, rfl, S _ _ hp', hx'.imp fun _ _ _ q => q.same S⟩⟩
      clear ls20 hC hys hv
      rintro σ H21 ⟨v, rfl, ls21, hC, hys, hv⟩
      have el := ls21.hq.2.len
      have w0 : ∀ y ∈ ([] : List V), Wrong K H21 y := fun y hy => by cases hy
      refine ⟨by show 0 ≤ sizeLine; decide, fun e1 n1 => ?_⟩
      have w1 := wad (wad (wst (Same.new (o := .lst []) n1) w0) wr_non) (wr_nil upd_same)
      have l1 := ls21.same (Same.new (o := .lst []) n1)
      generalize upd H21 e1 (.lst []) = G1 at w1 l1
      refine ⟨by show 0 ≤ sizeLine; decide, fun e2 n2 => ⟨by show 1 ≤ sizeLine; decide, fun e3 n3 => ?_⟩⟩
      have S3' := (Same.new (o := .lst []) n2).trans (Same.new (o := .lst [V.ref e2]) n3)
      have w2 := wad (wst S3' w1) (wr_one (o := some []) upd_same ⟨e2, [], rfl, Same.new n3 _ _ upd_same, .nil⟩ (Nat.zero_le _) rfl)
      have l2 := l1.same S3'
      generalize upd (upd G1 e2 (.lst [])) e3 (.lst [V.ref e2]) = G2 at w2 l2
      refine ⟨by show 0 ≤ sizeLine; decide, fun e4 n4 => ?_⟩
      have w3 := wad (wad (wst (Same.new (o := .tup []) n4) w2) (wr_tup (SqT.of upd_same))) (wr_str "turns")
      have l3 := l2.same (Same.new (o := .tup []) n4)
      generalize upd G2 e4 (.tup []) = G3 at w3 l3
      refine ⟨by show 1 ≤ sizeLine; decide, fun e5 n5 => ?_⟩
      have w4 := wad (wst (Same.new (o := .lst [V.non]) n5) w3) (wr_one (o := none) upd_same NotL.non (Nat.zero_le _) rfl)
      have l4 := l3.same (Same.new (o := .lst [V.non]) n5)
      generalize upd G3 e5 (.lst [V.non]) = G4 at w4 l4
      refine ⟨by show 2 ≤ sizeLine; decide, fun e6 n6 => ⟨by show 1 ≤ sizeLine; decide, fun e7 n7 => ?_⟩⟩
      have S5' := (Same.new (o := .tup [V.str "begin", V.str "a"]) n6).trans (Same.new (o := .lst [V.ref e6]) n7)
      have w5 := wad (wst S5' w4) (wr_one (o := none) upd_same (NotL.tup (SqT.of (Same.new n7 _ _ upd_same))) (Nat.zero_le _) rfl)
      have l5 := l4.same S5'
      generalize upd (upd G4 e6 (.tup [V.str "begin", V.str "a"])) e7 (.lst [V.ref e6]) = G5 at w5 l5
      refine ⟨_, rfl, q, _, rfl, .inl ⟨SqL.of l5.hq.1, fun e8 n8 => ?_⟩⟩
      have w6 := wad (wst (Same.new (o := .tup (rs.map V.ref)) n8) w5) (wr_tup (SqT.of upd_same))
      have l6 := l5.same (Same.new (o := .tup (rs.map V.ref)) n8)
      generalize upd G5 e8 (.tup (rs.map V.ref)) = G6 at w6 l6
      refine ⟨_, rfl, q, rfl, ⟨_, SqL.of l6.hq.1⟩, fun e9 n9 => ?_⟩
      refine lc_list (K := K) (a := q) (xs := rs.map V.ref) (fun i H' => ∃ zs : List V, Same G6 H' ∧ H' e9 = some (.lst zs) ∧ (∀ x ∈ zs, ∃ a ys, x = V.ref a ∧ SqT K H' a ys) ∧ zs.length = i) ⟨[], Same.new n9, upd_same, by simp, rfl⟩ (fun i H' _ y => ?_) (fun i x H' hi y => ?_) (fun G7 y => ?_)
      · obtain ⟨_, S, _⟩ := y
        exact S.seq (SqL.of l6.hq.1)
      · obtain ⟨zs, S, hD, hps, pl⟩ := y
        obtain ⟨r, hr, rfl⟩ : ∃ r, rs[i]? = some r ∧ x = V.ref r := by
          rw [List.getElem?_map] at hi
          obtain ⟨n, h1, h2⟩ := Option.map_eq_some_iff.mp hi
          exact ⟨n, h1, h2.symm⟩
        obtain ⟨turn, ht, xt, hxt, htoks⟩ := l6.hq.2.get hr
        have hil : i < TS.length := (List.getElem?_eq_some_iff.mp ht).1
        refine ⟨rfl, ?_⟩
        refine tYes_ ?_
        refine iteT ?_
        refine ⟨_, rfl, r, xt, rfl, .inl ⟨SqL.of (S _ _ hxt), fun l nl => ?_⟩⟩
        have Sl := Same.new (o := .tup xt) nl
        have hD2 := Sl _ _ hD
        refine ⟨_, hD2, small1000 (by omega), zs ++ [V.ref l], fun x o hx => ?_, upd_same, fun x hx => ?_, by simp; omega⟩
        · rw [upd_ne (ne_of_none hx n9)]
          exact Sl _ _ (S _ _ hx)
        · rcases List.mem_append.mp hx with y | y
          · obtain ⟨a, zs', h1, h2⟩ := hps x y
            exact ⟨a, zs', h1, updT hD2 (sameT Sl h2)⟩
          · exact ⟨l, xt, List.mem_singleton.mp y, updT hD2 (SqT.of upd_same)⟩
      · obtain ⟨zs, S7, hD, hps, pl⟩ := y
        rw [List.length_map, el] at pl
        have w7 := wad (wst S7 w6) (wr_tups hD (all_none zs TS (fun x hx => by obtain ⟨a, ys, h1, h2⟩ := hps x hx; rw [h1]; exact NotL.tup h2) pl) nt (by omega))
        have l7 := l6.same S7
        refine ⟨by show 9 ≤ sizeLine; decide, fun B nB => ?_⟩
        have SB := Same.new (o := .lst [V.non, V.ref e1, V.ref e3, V.ref e4, V.str "turns", V.ref e5, V.ref e7, V.ref e8, V.ref e9]) nB
        have w8 := wst SB w7
        have l8 := l7.same SB
        have hB : upd G7 B (.lst [V.non, V.ref e1, V.ref e3, V.ref e4, V.str "turns", V.ref e5, V.ref e7, V.ref e8, V.ref e9]) B = some (.lst [V.non, V.ref e1, V.ref e3, V.ref e4, V.str "turns", V.ref e5, V.ref e7, V.ref e8, V.ref e9]) := upd_same
        generalize upd G7 B (.lst [V.non, V.ref e1, V.ref e3, V.ref e4, V.str "turns", V.ref e5, V.ref e7, V.ref e8, V.ref e9]) = G8 at w8 l8 hB
        have v0 : ∀ y ∈ ([] : List V), Wrong K G8 y := fun y hy => by cases hy
        refine ⟨_, rfl, _, rfl, by show 2 ≤ sizeLine; decide, fun f1 m1 => ⟨by show 1 ≤ sizeLine; decide, fun f2 m2 => ⟨by show 1 ≤ sizeLine; decide, fun f3 m3 => ?_⟩⟩⟩
        have lrs : (rs.map V.ref).length ≤ 100 := by rw [List.length_map]; omega
        have A1 := Same.new (o := .tup [V.str "rang", V.bl true]) m1
        have A2 := Same.new (o := .lst [V.ref f1]) m2
        have A3 := Same.new (o := .lst [V.ref f2]) m3
        have A13 := (A1.trans A2).trans A3
        have k1 : TurnV K (upd (upd (upd G8 f1 (.tup [V.str "rang", V.bl true])) f2 (.lst [V.ref f1])) f3 (.lst [V.ref f2])) (.ref f2) (some [none]) := turn_bad (A3 _ _ upd_same) (Bad.flag (SqT.of (A3 _ _ (A2 _ _ upd_same))))
        have l9 := l8.same A13
        refine ⟨q, f3, _, _, rfl, rfl, l9.hq.1, upd_same, by rw [sizeLine_eq]; simp only [List.length_cons, List.length_nil]; omega, fun g1 ng1 => ?_⟩
        have A4 := Same.new (o := .lst (rs.map V.ref ++ [V.ref f2])) ng1
        have v1 := wad (wst (A13.trans A4) v0) (wr_more (l9.hq.same A4) okt (by omega) (by omega) upd_same (TurnV.same A4 k1))
        have l10 := l9.same A4
        have hB1 := A4 _ _ (A13 _ _ hB)
        have w9 := wst (A13.trans A4) w8
        generalize upd (upd (upd (upd G8 f1 (.tup [V.str "rang", V.bl true])) f2 (.lst [V.ref f1])) f3 (.lst [V.ref f2])) g1 (.lst (rs.map V.ref ++ [V.ref f2])) = G9 at v1 l10 hB1 w9
        clear A1 A2 A3 A13 A4 k1 l9 v0 w8
        refine ⟨_, rfl, by show 3 ≤ sizeLine; decide, fun f4 m4 => ⟨by show 1 ≤ sizeLine; decide, fun f5 m5 => ⟨by show 1 ≤ sizeLine; decide, fun f6 m6 => ?_⟩⟩⟩
        have A1 := Same.new (o := .tup [V.str "signal", V.str "A", V.str "b"]) m4
        have A2 := Same.new (o := .lst [V.ref f4]) m5
        have A3 := Same.new (o := .lst [V.ref f5]) m6
        have A13 := (A1.trans A2).trans A3
        have k1 : TurnV K (upd (upd (upd G9 f4 (.tup [V.str "signal", V.str "A", V.str "b"])) f5 (.lst [V.ref f4])) f6 (.lst [V.ref f5])) (.ref f5) (some [none]) := turn_bad (A3 _ _ upd_same) (Bad.word (SqT.of (A3 _ _ (A2 _ _ upd_same))))
        have l9 := l10.same A13
        refine ⟨q, f6, _, _, rfl, rfl, l9.hq.1, upd_same, by rw [sizeLine_eq]; simp only [List.length_cons, List.length_nil]; omega, fun g2 ng2 => ?_⟩
        have A4 := Same.new (o := .lst (rs.map V.ref ++ [V.ref f5])) ng2
        have v2 := wad (wst (A13.trans A4) v1) (wr_more (l9.hq.same A4) okt (by omega) (by omega) upd_same (TurnV.same A4 k1))
        have l11 := l9.same A4
        have hB2 := A4 _ _ (A13 _ _ hB1)
        have w10 := wst (A13.trans A4) w9
        generalize upd (upd (upd (upd G9 f4 (.tup [V.str "signal", V.str "A", V.str "b"])) f5 (.lst [V.ref f4])) f6 (.lst [V.ref f5])) g2 (.lst (rs.map V.ref ++ [V.ref f5])) = G10 at v2 l11 hB2 w10
        clear A1 A2 A3 A13 A4 k1 l9 v1 w9
        refine ⟨by show 1 ≤ sizeLine; decide, fun f7 m7 => ⟨by show 1 ≤ sizeLine; decide, fun f8 m8 => ⟨by show 1 ≤ sizeLine; decide, fun f9 m9 => ?_⟩⟩⟩
        have A1 := Same.new (o := .tup [V.str "begin"]) m7
        have A2 := Same.new (o := .lst [V.ref f7]) m8
        have A3 := Same.new (o := .lst [V.ref f8]) m9
        have A13 := (A1.trans A2).trans A3
        have v3 := wad (wst A13 v2) (wr_one (o := some [none]) upd_same (turn_bad (A3 _ _ upd_same) (Bad.short (SqT.of (A3 _ _ (A2 _ _ upd_same))))) (by decide) rfl)
        have l12 := l11.same A13
        have hB3 := A13 _ _ hB2
        have w11 := wst A13 w10
        generalize upd (upd (upd G10 f7 (.tup [V.str "begin"])) f8 (.lst [V.ref f7])) f9 (.lst [V.ref f8]) = G11 at v3 l12 hB3 w11
        clear A1 A2 A3 A13
        refine fun dd nd => ?_
        have A1 := Same.new (o := .dK []) nd
        have v4 := wad (wst A1 v3) (wr_dic upd_same)
        have l13 := l12.same A1
        have hB4 := A1 _ _ hB3
        have w12 := wst A1 w11
        generalize upd G11 dd (.dK []) = G12 at v4 l13 hB4 w12
        clear A1
        refine ⟨by show 2 ≤ sizeLine; decide, fun f10 m10 => ⟨by show 1 ≤ sizeLine; decide, fun f11 m11 => ⟨by show 1 ≤ sizeLine; decide, fun f12 m12 => ?_⟩⟩⟩
        have A1 := Same.new (o := .lst [V.str "begin", V.str "a"]) m10
        have A2 := Same.new (o := .lst [V.ref f10]) m11
        have A3 := Same.new (o := .lst [V.ref f11]) m12
        have A13 := (A1.trans A2).trans A3
        have v5 := wad (wst A13 v4) (wr_one (o := some [none]) upd_same (turn_bad (A3 _ _ upd_same) (Bad.lst (SqL.of (A3 _ _ (A2 _ _ upd_same))))) (by decide) rfl)
        have l14 := l13.same A13
        have hB5 := A13 _ _ hB4
        have w13 := wst A13 w12
        generalize upd (upd (upd G12 f10 (.lst [V.str "begin", V.str "a"])) f11 (.lst [V.ref f10])) f12 (.lst [V.ref f11]) = G13 at v5 l14 hB5 w13
        clear A1 A2 A3 A13
        refine ⟨by show 5 ≤ sizeLine; decide, fun g3 ng3 => ?_⟩
        have A1 := Same.new (o := .lst [V.ref g1, V.ref g2, V.ref f9, V.ref dd, V.ref f12]) ng3
        refine ⟨B, g3, _, _, rfl, rfl, A1 _ _ hB5, upd_same, by show 9 + 5 ≤ sizeLine; decide, fun BB nBB => ?_⟩
        have A2 := Same.new (o := .lst ([V.non, V.ref e1, V.ref e3, V.ref e4, V.str "turns", V.ref e5, V.ref e7, V.ref e8, V.ref e9] ++ [V.ref g1, V.ref g2, V.ref f9, V.ref dd, V.ref f12])) nBB
        have l15 := l14.same (A1.trans A2)
        have all : ∀ y ∈ [V.non, V.ref e1, V.ref e3, V.ref e4, V.str "turns", V.ref e5, V.ref e7, V.ref e8, V.ref e9] ++ [V.ref g1, V.ref g2, V.ref f9, V.ref dd, V.ref f12], Wrong K _ y := fun y hy => by
          rcases List.mem_append.mp hy with z | z
          · exact (w13 y z).same (A1.trans A2)
          · exact (v5 y z).same (A1.trans A2)
        have hBB := upd_same (H := upd G13 g3 (.lst [V.ref g1, V.ref g2, V.ref f9, V.ref dd, V.ref f12])) (a := BB) (o := HO.lst ([V.non, V.ref e1, V.ref e3, V.ref e4, V.str "turns", V.ref e5, V.ref e7, V.ref e8, V.ref e9] ++ [V.ref g1, V.ref g2, V.ref f9, V.ref dd, V.ref f12]))
        generalize upd (upd G13 g3 (.lst [V.ref g1, V.ref g2, V.ref f9, V.ref dd, V.ref f12])) BB (.lst ([V.non, V.ref e1, V.ref e3, V.ref e4, V.str "turns", V.ref e5, V.ref e7, V.ref e8, V.ref e9] ++ [V.ref g1, V.ref g2, V.ref f9, V.ref dd, V.ref f12])) = G14 at all l15 hBB
        refine ⟨_, rfl, BB, rfl, ⟨_, SqL.of hBB⟩, ?_⟩
        refine for_list (K := K) (a := BB) (xs := [V.non, V.ref e1, V.ref e3, V.ref e4, V.str "turns", V.ref e5, V.ref e7, V.ref e8, V.ref e9] ++ [V.ref g1, V.ref g2, V.ref f9, V.ref dd, V.ref f12]) (fun i σ H' => ∃ v9 : Option V, σ = [some (.ref a), some (.ref b), some (.ref p), some (.ref q), some (.ref h), some (.ref D), some (.ref C), some v, some (.ref BB), v9, none] ∧ Same G14 H') ⟨none, rfl, fun _ _ z => z⟩ (fun i σ H' _ y => ?_) (fun i x σ H' hi y => ?_) (fun σ H' y => ?_)
        · obtain ⟨_, _, S⟩ := y
          exact S.seq (SqL.of hBB)
        · obtain ⟨v9, rfl, S⟩ := y
          obtain ⟨o, ho, hl, hn⟩ := (all x (List.mem_of_getElem? hi)).same S
          refine ⟨_, rfl, x, o, rfl, ho, hl, fun a1 H22 S22 na1 hm => ?_⟩
          rw [hn] at hm
          refine ⟨by show 2 ≤ sizeLine; decide, fun u1 nu1 => ?_⟩
          have Su := Same.new (o := .tup [V.str "refused", V.str "turns"]) nu1
          refine ⟨_, _, rfl, sameRefused (SqT.of (Su _ _ hm)) (SqT.of upd_same), fun H23 S23 => ⟨_, rfl, iteF ?_⟩⟩
          exact ⟨_, rfl, ((S.trans S22).trans Su).trans S23⟩
        · obtain ⟨v9, rfl, S⟩ := y
          have l16 := l15.same S
          refine ⟨_, rfl, h, xs, ts, rfl, SqL.of l16.hh, l16.htk, ne, vl, ow, by omega, fun H22 p22 rs22 S22 fr22 hp22 => ?_⟩
          rw [eTS] at hp22
          have l17 := l16.same S22
          exact ⟨_, rfl, _, _, rfl, sameTurns hp22 l17.hq (by omega) each, fun H23 S23 => k _⟩
end
end K13

set_option Elab.async false
set_option linter.all false
set_option maxRecDepth 100000
set_option maxHeartbeats 0
namespace K13
open PySem PySem.Spec PyProof.Rows L2
/-! ### the head: facts by names, the run -/
abbrev sIA : Stmt := inClass (top 4) 0
abbrev sIH : Stmt := inClass (top 3) 0
def dIA : He.DefD := ⟨("InvalidArgument", some "__init__"), "__init__", "InvalidArgument.__init__", defArgs sIA, defBody sIA, defScope sIA, [], []⟩
def dIH : He.DefD := ⟨("InvalidHistory", some "__init__"), "__init__", "InvalidHistory.__init__", defArgs sIH, defBody sIH, defScope sIH, [], []⟩
def d_is_word : He.DefD := ⟨("is_word", none), "is_word", "is_word", defArgs s_is_word, defBody s_is_word, defScope s_is_word, [], []⟩
def d_is_integer : He.DefD := ⟨("is_integer", none), "is_integer", "is_integer", defArgs s_is_integer, defBody s_is_integer, defScope s_is_integer, [], []⟩
def d_gone_over : He.DefD := ⟨("gone_over", none), "gone_over", "gone_over", defArgs s_gone_over, defBody s_gone_over, defScope s_gone_over, [], []⟩
def d_turns_in : He.DefD := ⟨("turns_in", none), "turns_in", "turns_in", defArgs s_turns_in, defBody s_turns_in, defScope s_turns_in, [], []⟩
def d_renumbered : He.DefD := ⟨("renumbered", none), "renumbered", "renumbered", defArgs s_renumbered, defBody s_renumbered, defScope s_renumbered, [], []⟩
def d_is_outer : He.DefD := ⟨("is_outer", none), "is_outer", "is_outer", defArgs s_is_outer, defBody s_is_outer, defScope s_is_outer, [], []⟩
def d_has_form : He.DefD := ⟨("has_form", none), "has_form", "has_form", defArgs s_has_form, defBody s_has_form, defScope s_has_form, [], []⟩
def d_fits : He.DefD := ⟨("fits", none), "fits", "fits", defArgs s_fits, defBody s_fits, defScope s_fits, [], []⟩
def d_place_in : He.DefD := ⟨("place_in", none), "place_in", "place_in", defArgs s_place_in, defBody s_place_in, defScope s_place_in, [], []⟩
def d_check : He.DefD := ⟨("check", none), "check", "check", defArgs s_check, defBody s_check, defScope s_check, [], []⟩
def d_cut : He.DefD := ⟨("cut", none), "cut", "cut", defArgs s_cut, defBody s_cut, defScope s_cut, [], []⟩
def d_aged : He.DefD := ⟨("aged", none), "aged", "aged", defArgs s_aged, defBody s_aged, defScope s_aged, [], []⟩
def d_numbered : He.DefD := ⟨("numbered", none), "numbered", "numbered", defArgs s_numbered, defBody s_numbered, defScope s_numbered, [], []⟩
def d_is_like_turn : He.DefD := ⟨("is_like_turn", none), "is_like_turn", "is_like_turn", defArgs s_is_like_turn, defBody s_is_like_turn, defScope s_is_like_turn, [], []⟩
def d__law_bag : He.DefD := ⟨("_law_bag", none), "_law_bag", "_law_bag", defArgs s__law_bag, defBody s__law_bag, defScope s__law_bag, [], []⟩
def d__law_draw : He.DefD := ⟨("_law_draw", none), "_law_draw", "_law_draw", defArgs s__law_draw, defBody s__law_draw, defScope s__law_draw, [], []⟩
def d__law_one : He.DefD := ⟨("_law_one", none), "_law_one", "_law_one", defArgs s__law_one, defBody s__law_one, defScope s__law_one, [], []⟩
def d__law_words : He.DefD := ⟨("_law_words", none), "_law_words", "_law_words", defArgs s__law_words, defBody s__law_words, defScope s__law_words, [], []⟩
def d__law_same : He.DefD := ⟨("_law_same", none), "_law_same", "_law_same", defArgs s__law_same, defBody s__law_same, defScope s__law_same, [], []⟩
def d__law_history : He.DefD := ⟨("_law_history", none), "_law_history", "_law_history", defArgs s__law_history, defBody s__law_history, defScope s__law_history, [], []⟩
def d__law_turns : He.DefD := ⟨("_law_turns", none), "_law_turns", "_law_turns", defArgs s__law_turns, defBody s__law_turns, defScope s__law_turns, [], []⟩
def d__law_back : He.DefD := ⟨("_law_back", none), "_law_back", "_law_back", defArgs s__law_back, defBody s__law_back, defScope s__law_back, [], []⟩
def d__law_told : He.DefD := ⟨("_law_told", none), "_law_told", "_law_told", defArgs s__law_told, defBody s__law_told, defScope s__law_told, [], []⟩
def d__law_changed : He.DefD := ⟨("_law_changed", none), "_law_changed", "_law_changed", defArgs s__law_changed, defBody s__law_changed, defScope s__law_changed, [], []⟩
def d_law : He.DefD := ⟨("law", none), "law", "law", defArgs s_law, defBody s_law, defScope s_law, [], []⟩
def fn : List He.DefD := [dIA, dIH, d_is_word, d_is_integer, d_gone_over, d_turns_in, d_renumbered, d_is_outer, d_has_form, d_fits, d_place_in, d_check, d_cut, d_aged, d_numbered, d_is_like_turn, d__law_bag, d__law_draw, d__law_one, d__law_words, d__law_same, d__law_history, d__law_turns, d__law_back, d__law_told, d__law_changed, d_law]
def fa : List He.Fa := [.glo "InvalidArgument", .glo "InvalidHistory", .glo "LAST_WORDS", .glo "OUTER_FORMS", .glo "COMMAND_FORMS", .glo "STARTED", .glo "NAMED", .glo "is_word", .glo "is_integer", .glo "gone_over", .glo "turns_in", .glo "renumbered", .glo "is_outer", .glo "has_form", .glo "fits", .glo "place_in", .glo "check", .glo "cut", .glo "aged", .glo "numbered", .glo "is_like_turn", .glo "_law_bag", .glo "_law_draw", .glo "_law_one", .glo "_law_words", .glo "_law_same", .glo "_law_history", .glo "_law_turns", .glo "_law_back", .glo "_law_told", .glo "_law_changed", .glo "law", .free "isinstance", .free "str", .free "int", .free "bool", .free "tuple", .free "list", .free "dict", .free "len", .free "all", .free "any", .free "zip", .free "enumerate", .free "range", .free "sorted", .noat "InvalidArgument" "part", .noat "InvalidHistory" "at", .int "LONGEST_WORD" 8, .exm "InvalidArgument" "InvalidArgument" true]
def ts : List He.Tab := [(fun K => He.ga K "OUTER_FORMS", ["begin", "answer", "rang", "signal"]), (fun K => He.ga K "COMMAND_FORMS", ["asked", "set", "dropped", "noted", "marked", "ended", "anew"]), (fun K => He.ga K "STARTED", ["asked", "set"]), (fun K => He.ga K "NAMED", ["answer", "rang", "dropped"])]
def tupV (K : PySem.W.Frag) (v : Value) (vs : List V) : Bool := match v with
  | .ref p => match K.lookup p with
    | some ⟨.type c, _, .seq its _, _⟩ => decide (c = "tuple") && (decide (its.size ≤ sizeLine) && He.relAll vs its.toList)
    | _ => false
  | _ => false
theorem tupV_ok {K : PySem.W.Frag} {v : Value} {vs : List V} (h : tupV K v vs = true) : ∃ p, v = .ref p ∧ ∀ H, SqT K H p vs := by
  unfold tupV at h
  cases v with
  | ref p =>
    refine ⟨p, rfl, fun H => ?_⟩
    cases q : K.lookup p with
    | none =>
      simp only [q] at h
      cases h
    | some o =>
      obtain ⟨oc, od, dt, osl⟩ := o
      simp only [q] at h
      cases oc with
      | type c =>
        cases dt with
        | seq its n =>
          obtain ⟨h1, h2⟩ := He.ba (show (decide (c = "tuple") && (decide (its.size ≤ sizeLine) && He.relAll vs its.toList)) = true from h)
          obtain ⟨h3, h4⟩ := He.ba h2
          exact .inr ⟨_, its, n, q, congrArg Value.type (of_decide_eq_true h1), rfl, of_decide_eq_true h3, He.relAll_ok h4⟩
        | _ => cases h
      | _ => cases dt <;> cases h
  | _ => cases h
def hasT (K : PySem.W.Frag) (d : Addr) (q : Str × List V) : Bool := match PySem.W.nsIn K d q.1 with
  | some (some v) => tupV K v q.2
  | _ => false
theorem hasT_ok {K : PySem.W.Frag} {d : Addr} {x : Str} {vs : List V} (h : hasT K d (x, vs) = true) : ∃ p, PySem.W.nsIn K d x = some (some (.ref p)) ∧ ∀ H, SqT K H p vs := by
  unfold hasT at h
  split at h
  · rename_i v e
    obtain ⟨p, rfl, q⟩ := tupV_ok h
    exact ⟨p, e, q⟩
  · cases h
def hasS (K : PySem.W.Frag) (d : Addr) (q : Str × Str) : Bool := match PySem.W.nsIn K d q.1 with
  | some (some (.str y _)) => decide (y = q.2)
  | _ => false
theorem hasS_ok {K : PySem.W.Frag} {d : Addr} {x z : Str} (h : hasS K d (x, z) = true) : ∃ u, PySem.W.nsIn K d x = some (some u) ∧ RelV (.str z) u := by
  unfold hasS at h
  split at h
  · rename_i y t e
    have := of_decide_eq_true h
    subst this
    exact ⟨_, e, ⟨_, rfl⟩⟩
  · cases h
def noK (K : PySem.W.Frag) (d : Addr) (x : Str) : Bool := He.eqO (PySem.W.nsIn K d x) (some none)
abbrev lW : List V := [.str "word"]
abbrev lN : List V := [.str "number"]
def oT : List (Str × List V) := [("begin", lW), ("answer", [.str "number", .str "word"]), ("rang", lN), ("signal", [.str "word", .str "word"])]
def cTt : List (Str × List V) := [("asked", lW), ("set", []), ("dropped", lN), ("noted", lW), ("marked", lW), ("ended", lW), ("anew", lW)]
def sT : List (Str × Str) := [("asked", "ask"), ("set", "timer")]
def nT : List (Str × List V) := [("answer", [.str "ask"]), ("rang", [.str "timer"]), ("dropped", [.str "ask", .str "timer"])]
def sNo : List Str := ["begin", "answer", "rang", "signal", "dropped", "noted", "marked", "ended", "anew"]
def nNo : List Str := ["begin", "signal", "asked", "set", "noted", "marked", "ended", "anew"]
def ex (K : PySem.W.Frag) : Bool :=
  oT.all (hasT K (dO K)) && ((cTt.map Prod.fst).all (noK K (dO K)) && (cTt.all (hasT K (dC K)) && (sT.all (hasS K (dS K)) && (sNo.all (noK K (dS K)) && (nT.all (hasT K (dN K)) && (nNo.all (noK K (dN K)) &&
  (tupV K (.ref (He.ga K "LAST_WORDS")) [.str "ended", .str "anew"] && (He.errB K (cIA K) && (He.iniB K (cIA K) && (xfB K (cIA K) && (He.errB K (cIH K) && He.iniB K (cIH K))))))))))))
structure ExF (K : PySem.W.Frag) : Prop where
  hd : HeadF K
  last : ∀ H, SqT K H (He.ga K "LAST_WORDS") [.str "ended", .str "anew"]
  err : ErrC K (cIA K)
  ini : He.iniB K (cIA K) = true
  xf : XfC K (cIA K)
  errH : ErrC K (cIH K)
  iniH : He.iniB K (cIH K) = true
theorem ex_ok {K : PySem.W.Frag} (h : ex K = true) : ExF K := by
  obtain ⟨h1, h⟩ := He.ba h
  obtain ⟨h2, h⟩ := He.ba h
  obtain ⟨h3, h⟩ := He.ba h
  obtain ⟨h4, h⟩ := He.ba h
  obtain ⟨h5, h⟩ := He.ba h
  obtain ⟨h6, h⟩ := He.ba h
  obtain ⟨h7, h⟩ := He.ba h
  obtain ⟨h8, h⟩ := He.ba h
  obtain ⟨h9, h⟩ := He.ba h
  obtain ⟨h10, h⟩ := He.ba h
  obtain ⟨h11, h⟩ := He.ba h
  obtain ⟨h12, h13⟩ := He.ba h
  have a1 := fun q hq => List.all_eq_true.mp h1 q hq
  have a2 := fun q hq => List.all_eq_true.mp h2 q hq
  have a3 := fun q hq => List.all_eq_true.mp h3 q hq
  have a4 := fun q hq => List.all_eq_true.mp h4 q hq
  have a5 := fun q hq => List.all_eq_true.mp h5 q hq
  have a6 := fun q hq => List.all_eq_true.mp h6 q hq
  have a7 := fun q hq => List.all_eq_true.mp h7 q hq
  refine ⟨⟨fun t ht => ?_, fun t ht => ?_, fun t ht => ?_, fun t k ht => ?_, fun t ht => ?_, fun t n ht => ?_, fun t ht => ?_⟩, ?_, He.errB_ok h9, h10, xfB_ok h11, He.errB_ok h12, h13⟩
  · refine hasT_ok (a1 (t.head, fms t) ?_)
    cases t <;> first | (cases ht; done) | simp [oT, fms, Tok.head, Tok.rest, kindV]
  · refine He.eqO_ok (a2 t.head ?_)
    cases t <;> first | (cases ht; done) | simp [cTt, Tok.head]
  · refine hasT_ok (a3 (t.head, fms t) ?_)
    cases t <;> first | (cases ht; done) | simp [cTt, fms, Tok.head, Tok.rest, kindV]
  · refine hasS_ok (a4 (t.head, kindS k) ?_)
    cases t <;> cases ht <;> simp [sT, kindS, Tok.head]
  · refine He.eqO_ok (a5 t.head ?_)
    cases t <;> first | (cases ht; done) | simp [sNo, Tok.head]
  · refine hasT_ok (a6 (t.head, nms t) ?_)
    cases t <;> first | (cases ht; done) | simp [nT, nms, Tok.head]
  · refine He.eqO_ok (a7 t.head ?_)
    cases t <;> first | (cases ht; done) | simp [nNo, Tok.head]
  · intro H
    obtain ⟨p, e, q⟩ := tupV_ok h8
    cases e
    exact q H
abbrev Row0 : PySem.W.OpenRow := PySem.W.OpenLaw.row PySem.Challenge.rw_openruns_k13_ages_and_numbers
abbrev hk : PySem.W.Hook := He.hookX 5 fa fn ts [] ex
def ob (s : PySem.W.SharedT) : He.AlX := He.obsX 5 fa fn ts [] ex (HandSHeadRun.getT s)
theorem ob_eq (s : PySem.W.SharedT) : ob s = hk.obs s.abs := He.obsX_eq (HandSHeadRun.getT_eq s)

def loose : List Str := (["OpenError", "InputError", "InvalidHistory", "InvalidArgument", "LONGEST_WORD", "is_word", "is_integer", "OUTER_FORMS", "COMMAND_FORMS", "STARTED", "NAMED", "LAST_WORDS", "gone_over", "turns_in", "renumbered", "is_outer", "has_form", "fits", "place_in", "check"] : List Str) ++ (["cut", "aged", "numbered", "is_like_turn", "_law_bag", "_law_draw", "_law_one", "_law_words", "_law_same", "_law_history", "_law_turns", "_law_back", "_law_told", "_law_changed"] : List Str)
end K13

set_option Elab.async false
set_option linter.all false
set_option maxRecDepth 100000
set_option maxHeartbeats 0
namespace K13
open PySem PySem.Spec PyProof.Rows L2
theorem run_no (w : World) : HandSHeadRun.RunEq Row0 (PySem.W.view Row0.prog [39]) hk ob 6000 loose (w.withFollow "special-get-raises" false) := by
  intro os
  kernel_rfl
theorem run_yes (w : World) : HandSHeadRun.RunEq Row0 (PySem.W.view Row0.prog [39]) hk ob 6000 loose (w.withFollow "special-get-raises" true) := by
  intro os
  kernel_rfl
theorem run (w : World) : HandSHeadRun.RunEq Row0 (PySem.W.view Row0.prog [39]) hk ob 6000 loose w := PySem.W.byRow2 "special-get-raises" (P := fun w => HandSHeadRun.RunEq Row0 (PySem.W.view Row0.prog [39]) hk ob 6000 loose w) run_no run_yes w
end K13

set_option Elab.async false
set_option linter.all false
set_option maxRecDepth 100000
set_option maxHeartbeats 0
namespace K13
open PySem PySem.Spec PyProof.Rows L2
section
variable {P : Program} {w : World} {K : PySem.W.Frag} {h base : Heap} {mg : Str → Option Value}
theorem names (X : K.In h) (G : h.Ns mainGlobals mg) (e : ExF K) (c0 : He.SaysT fa fn ts w K) : Tx w K mg :=
  have c := c0.d
  { b_isinstance := He.free_ok X G (c.fact 32 (f := .free "isinstance") rfl)
    b_str := He.free_ok X G (c.fact 33 (f := .free "str") rfl)
    b_int := He.free_ok X G (c.fact 34 (f := .free "int") rfl)
    b_bool := He.free_ok X G (c.fact 35 (f := .free "bool") rfl)
    b_tuple := He.free_ok X G (c.fact 36 (f := .free "tuple") rfl)
    b_list := He.free_ok X G (c.fact 37 (f := .free "list") rfl)
    b_dict := He.free_ok X G (c.fact 38 (f := .free "dict") rfl)
    b_len := He.free_ok X G (c.fact 39 (f := .free "len") rfl)
    b_all := He.free_ok X G (c.fact 40 (f := .free "all") rfl)
    b_any := He.free_ok X G (c.fact 41 (f := .free "any") rfl)
    b_zip := He.free_ok X G (c.fact 42 (f := .free "zip") rfl)
    b_enumerate := He.free_ok X G (c.fact 43 (f := .free "enumerate") rfl)
    b_range := He.free_ok X G (c.fact 44 (f := .free "range") rfl)
    b_sorted := He.free_ok X G (c.fact 45 (f := .free "sorted") rfl)
    m_LONGEST_WORD := He.int_ok X G (c.fact 48 (f := .int "LONGEST_WORD" 8) rfl)
    lastT := e.last
    m_LAST_WORDS := He.glo_ok X G (c.fact 2 (f := .glo "LAST_WORDS") rfl)
    hd := e.hd
    m_OUTER_FORMS := He.glo_ok X G (c.fact 3 (f := .glo "OUTER_FORMS") rfl)
    D_OUTER_FORMS := c0.tab 0 (t := (fun K => He.ga K "OUTER_FORMS", ["begin", "answer", "rang", "signal"])) rfl
    m_COMMAND_FORMS := He.glo_ok X G (c.fact 4 (f := .glo "COMMAND_FORMS") rfl)
    D_COMMAND_FORMS := c0.tab 1 (t := (fun K => He.ga K "COMMAND_FORMS", ["asked", "set", "dropped", "noted", "marked", "ended", "anew"])) rfl
    m_STARTED := He.glo_ok X G (c.fact 5 (f := .glo "STARTED") rfl)
    D_STARTED := c0.tab 2 (t := (fun K => He.ga K "STARTED", ["asked", "set"])) rfl
    m_NAMED := He.glo_ok X G (c.fact 6 (f := .glo "NAMED") rfl)
    D_NAMED := c0.tab 3 (t := (fun K => He.ga K "NAMED", ["answer", "rang", "dropped"])) rfl }
theorem def_IA (X : K.In h) (G : h.Ns mainGlobals mg) (e : ExF K) (c : He.SaysD fa fn K) : ErrDef P w K mg base CX0 1 "InvalidArgument" (cIA K) ["self", "part"] ["part"] := by
  obtain ⟨fd, F⟩ := c.def_ 0 (d := dIA) rfl
  obtain ⟨i1, i2⟩ := He.ba e.ini
  refine ⟨⟨_, fd, He.glo_ok X G (c.fact 0 (f := .glo "InvalidArgument") rfl), e.err, He.eqO_ok i1, of_decide_eq_true i2, F.bindsN (ps := ["self", "part"]) (fun _ _ _ _ _ _ us hl => match us, hl with | [_, _], _ => rfl), fun s u ws _ hl => ?_, ?_, by decide, rfl⟩⟩
  · obtain ⟨oc, od, dV, kV, doc, pm, an, cdv, ct, osl, rfl, _, _, hD, _⟩ := F.ex
    rcases hD with ⟨_, rfl⟩ | ⟨z, _⟩
    · match ws, hl with
      | [_], _ => exact .of_eq rfl
    · exact absurd rfl z
  · exact ok_ini1 F ⟨rfl, rfl, rfl, by decide +kernel, rfl, by decide +kernel, by decide +kernel⟩ rfl rfl (by decide) (by decide) e.err (He.noat_ok (c.fact 46 (f := .noat "InvalidArgument" "part") rfl))
theorem def_IH (X : K.In h) (G : h.Ns mainGlobals mg) (e : ExF K) (c : He.SaysD fa fn K) : ErrDef P w K mg base CX0 1 "InvalidHistory" (cIH K) ["self", "at"] ["at"] := by
  obtain ⟨fd, F⟩ := c.def_ 1 (d := dIH) rfl
  obtain ⟨i1, i2⟩ := He.ba e.iniH
  refine ⟨⟨_, fd, He.glo_ok X G (c.fact 1 (f := .glo "InvalidHistory") rfl), e.errH, He.eqO_ok i1, of_decide_eq_true i2, F.bindsN (ps := ["self", "at"]) (fun _ _ _ _ _ _ us hl => match us, hl with | [_, _], _ => rfl), fun s u ws _ hl => ?_, ?_, by decide, rfl⟩⟩
  · obtain ⟨oc, od, dV, kV, doc, pm, an, cdv, ct, osl, rfl, _, _, hD, _⟩ := F.ex
    rcases hD with ⟨_, rfl⟩ | ⟨z, _⟩
    · match ws, hl with
      | [_], _ => exact .of_eq rfl
    · exact absurd rfl z
  · exact ok_ini1 F ⟨rfl, rfl, rfl, by decide +kernel, rfl, by decide +kernel, by decide +kernel⟩ rfl rfl (by decide) (by decide) e.errH (He.noat_ok (c.fact 47 (f := .noat "InvalidHistory" "at") rfl))
theorem same_0 {f : Addr} {fd : FuncData} (F : FnP K "_law_same" "_law_same" s__law_same f fd) : FnOk P w K mg base CX0 0 f fd p__law_same (spSame K 0) := by
  refine ⟨fun vs H Q E h => ?_, fun A outer s H args us vs Q E _ _ _ _ h => ?_⟩
  · obtain ⟨v, w, rfl, _⟩ := h
    rfl
  · obtain ⟨v, w, rfl, hs, _⟩ := h
    cases hs
theorem facts (X : K.In h) (G : h.Ns mainGlobals mg) {f : Addr} (hfa : mg ("law" : Str) = some (.ref f)) (ee : ex K = true) (c0 : He.SaysT fa fn ts w K) :
    ∃ fd : FuncData, (∀ (s : Shared) (v : Value), BindsTo s fd ⟨[v], []⟩ [("_law_script", v)]) ∧ ∀ base : Heap, K.In base → base.Ns mainGlobals mg → FnOk P w K mg base CX0 8 f fd ["_law_script"] (spLaw K) := by
  have e := ex_ok ee
  have T := names X G e c0
  have c := c0.d
  have gIA := He.glo_ok X G (c.fact 0 (f := .glo "InvalidArgument") rfl)
  obtain ⟨fd_is_word, Fd_is_word⟩ := c.def_ 2 (d := d_is_word) rfl
  obtain ⟨fd_is_integer, Fd_is_integer⟩ := c.def_ 3 (d := d_is_integer) rfl
  obtain ⟨fd_gone_over, Fd_gone_over⟩ := c.def_ 4 (d := d_gone_over) rfl
  obtain ⟨fd_turns_in, Fd_turns_in⟩ := c.def_ 5 (d := d_turns_in) rfl
  obtain ⟨fd_renumbered, Fd_renumbered⟩ := c.def_ 6 (d := d_renumbered) rfl
  obtain ⟨fd_is_outer, Fd_is_outer⟩ := c.def_ 7 (d := d_is_outer) rfl
  obtain ⟨fd_has_form, Fd_has_form⟩ := c.def_ 8 (d := d_has_form) rfl
  obtain ⟨fd_fits, Fd_fits⟩ := c.def_ 9 (d := d_fits) rfl
  obtain ⟨fd_place_in, Fd_place_in⟩ := c.def_ 10 (d := d_place_in) rfl
  obtain ⟨fd_check, Fd_check⟩ := c.def_ 11 (d := d_check) rfl
  obtain ⟨fd_cut, Fd_cut⟩ := c.def_ 12 (d := d_cut) rfl
  obtain ⟨fd_aged, Fd_aged⟩ := c.def_ 13 (d := d_aged) rfl
  obtain ⟨fd_numbered, Fd_numbered⟩ := c.def_ 14 (d := d_numbered) rfl
  obtain ⟨fd_is_like_turn, Fd_is_like_turn⟩ := c.def_ 15 (d := d_is_like_turn) rfl
  obtain ⟨fd__law_bag, Fd__law_bag⟩ := c.def_ 16 (d := d__law_bag) rfl
  obtain ⟨fd__law_draw, Fd__law_draw⟩ := c.def_ 17 (d := d__law_draw) rfl
  obtain ⟨fd__law_one, Fd__law_one⟩ := c.def_ 18 (d := d__law_one) rfl
  obtain ⟨fd__law_words, Fd__law_words⟩ := c.def_ 19 (d := d__law_words) rfl
  obtain ⟨fd__law_same, Fd__law_same⟩ := c.def_ 20 (d := d__law_same) rfl
  obtain ⟨fd__law_history, Fd__law_history⟩ := c.def_ 21 (d := d__law_history) rfl
  obtain ⟨fd__law_turns, Fd__law_turns⟩ := c.def_ 22 (d := d__law_turns) rfl
  obtain ⟨fd__law_back, Fd__law_back⟩ := c.def_ 23 (d := d__law_back) rfl
  obtain ⟨fd__law_told, Fd__law_told⟩ := c.def_ 24 (d := d__law_told) rfl
  obtain ⟨fd__law_changed, Fd__law_changed⟩ := c.def_ 25 (d := d__law_changed) rfl
  obtain ⟨fd_law, Fd_law⟩ := c.def_ 26 (d := d_law) rfl
  have z := hfa.symm.trans (He.glo_ok X G (c.fact 31 (f := .glo "law") rfl))
  cases z
  have b := FunD.bindsA (ps := ["_law_script"]) Fd_law fun _ _ _ _ _ _ us hl => match us, hl with | [_], _ => rfl
  refine ⟨fd_law, fun s v => b s [v] rfl, fun base _ _ => ?_⟩
  have IA := def_IA (P := P) (w := w) (base := base) X G e c
  have IH := def_IH (P := P) (w := w) (base := base) X G e c
  have G_is_word : Def P w K mg base CX0 1 "is_word" p_is_word spIsWord := ⟨⟨_, fd_is_word, He.glo_ok X G (c.fact 7 (f := .glo "is_word") rfl), Fd_is_word.kp, Fd_is_word.bindsN (ps := p_is_word) (fun _ _ _ _ _ _ us hl => match us, hl with | [_], _ => rfl), ok_is_word Fd_is_word T⟩⟩
  have G_is_integer : Def P w K mg base CX0 1 "is_integer" p_is_integer spIsInt := ⟨⟨_, fd_is_integer, He.glo_ok X G (c.fact 8 (f := .glo "is_integer") rfl), Fd_is_integer.kp, Fd_is_integer.bindsN (ps := p_is_integer) (fun _ _ _ _ _ _ us hl => match us, hl with | [_], _ => rfl), ok_is_integer Fd_is_integer T⟩⟩
  have G_fits : Def P w K mg base CX0 2 "fits" p_fits spFits := ⟨⟨_, fd_fits, He.glo_ok X G (c.fact 14 (f := .glo "fits") rfl), Fd_fits.kp, Fd_fits.bindsN (ps := p_fits) (fun _ _ _ _ _ _ us hl => match us, hl with | [_, _], _ => rfl), ok_fits Fd_fits T G_is_integer G_is_word⟩⟩
  have G_has_form : Def P w K mg base CX0 3 "has_form" p_has_form (spHasForm K) := ⟨⟨_, fd_has_form, He.glo_ok X G (c.fact 13 (f := .glo "has_form") rfl), Fd_has_form.kp, Fd_has_form.bindsN (ps := p_has_form) (fun _ _ _ _ _ _ us hl => match us, hl with | [_], _ => rfl), ok_has_form Fd_has_form T G_fits⟩⟩
  have G_is_outer : Def P w K mg base CX0 1 "is_outer" p_is_outer (spIsOuter K) := ⟨⟨_, fd_is_outer, He.glo_ok X G (c.fact 12 (f := .glo "is_outer") rfl), Fd_is_outer.kp, Fd_is_outer.bindsN (ps := p_is_outer) (fun _ _ _ _ _ _ us hl => match us, hl with | [_], _ => rfl), ok_is_outer Fd_is_outer T⟩⟩
  have G_place_in : Def P w K mg base CX0 1 "place_in" p_place_in (spPlace K) := ⟨⟨_, fd_place_in, He.glo_ok X G (c.fact 15 (f := .glo "place_in") rfl), Fd_place_in.kp, Fd_place_in.bindsN (ps := p_place_in) (fun _ _ _ _ _ _ us hl => match us, hl with | [_, _], _ => rfl), ok_place_in Fd_place_in T⟩⟩
  have G_gone_over : Def P w K mg base CX0 4 "gone_over" p_gone_over (spGone K) := ⟨⟨_, fd_gone_over, He.glo_ok X G (c.fact 9 (f := .glo "gone_over") rfl), Fd_gone_over.kp, Fd_gone_over.bindsN (ps := p_gone_over) (fun _ _ _ _ _ _ us hl => match us, hl with | [_], _ => rfl), ok_gone Fd_gone_over T G_has_form⟩⟩
  have G_turns_in : Def P w K mg base CX0 2 "turns_in" p_turns_in (spTurnsIn K) := ⟨⟨_, fd_turns_in, He.glo_ok X G (c.fact 10 (f := .glo "turns_in") rfl), Fd_turns_in.kp, Fd_turns_in.bindsN (ps := p_turns_in) (fun _ _ _ _ _ _ us hl => match us, hl with | [_], _ => rfl), ok_turnsIn Fd_turns_in T G_is_outer⟩⟩
  have G_renumbered : Def P w K mg base CX0 2 "renumbered" p_renumbered (spRenum K) := ⟨⟨_, fd_renumbered, He.glo_ok X G (c.fact 11 (f := .glo "renumbered") rfl), Fd_renumbered.kp, Fd_renumbered.bindsN (ps := p_renumbered) (fun _ _ _ _ _ _ us hl => match us, hl with | [_, _], _ => rfl), ok_renum Fd_renumbered T G_is_outer G_place_in⟩⟩
  have G_cut : Def P w K mg base (L2.CX P w) 5 "cut" p_cut (spCutG K) := ⟨⟨_, fd_cut, He.glo_ok X G (c.fact 17 (f := .glo "cut") rfl), Fd_cut.kp, Fd_cut.bindsN (ps := p_cut) (fun _ _ _ _ _ _ us hl => match us, hl with | [_], _ => rfl), ok_cutG Fd_cut T IH G_gone_over G_turns_in⟩⟩
  have G_check : Def P w K mg base (L2.CX P w) 6 "check" p_check (spCheckG K) := ⟨⟨_, fd_check, He.glo_ok X G (c.fact 16 (f := .glo "check") rfl), Fd_check.kp, Fd_check.bindsN (ps := p_check) (fun _ _ _ _ _ _ us hl => match us, hl with | [_], _ => rfl), ok_checkG Fd_check T G_cut⟩⟩
  have G_aged : Def P w K mg base CX0 7 "aged" p_aged (spAged K) := ⟨⟨_, fd_aged, He.glo_ok X G (c.fact 18 (f := .glo "aged") rfl), Fd_aged.kp, Fd_aged.bindsN (ps := p_aged) (fun _ _ _ _ _ _ us hl => match us, hl with | [_], _ => rfl), ok_aged Fd_aged T G_check G_turns_in G_renumbered⟩⟩
  have G_is_like_turn : Def P w K mg base CX0 4 "is_like_turn" p_is_like_turn (spLike K) := ⟨⟨_, fd_is_like_turn, He.glo_ok X G (c.fact 20 (f := .glo "is_like_turn") rfl), Fd_is_like_turn.kp, Fd_is_like_turn.bindsN (ps := p_is_like_turn) (fun _ _ _ _ _ _ us hl => match us, hl with | [_], _ => rfl), ok_like Fd_is_like_turn T G_has_form G_is_outer⟩⟩
  have G_numbered : Def P w K mg base (L2.CX P w) 6 "numbered" p_numbered (spNumbered K) := ⟨⟨_, fd_numbered, He.glo_ok X G (c.fact 19 (f := .glo "numbered") rfl), Fd_numbered.kp, Fd_numbered.bindsN (ps := p_numbered) (fun _ _ _ _ _ _ us hl => match us, hl with | [_], _ => rfl), ok_numbered Fd_numbered T IA G_is_like_turn G_renumbered G_gone_over⟩⟩
  have G__law_told : Def P w K mg base CX0 7 "_law_told" p__law_told (spTold K) := ⟨⟨_, fd__law_told, He.glo_ok X G (c.fact 29 (f := .glo "_law_told") rfl), Fd__law_told.kp, Fd__law_told.bindsN (ps := p__law_told) (fun _ _ _ _ _ _ us hl => match us, hl with | [_], _ => rfl), ok_told Fd__law_told T e.xf gIA (He.noat_ok (c.fact 46 (f := .noat "InvalidArgument" "part") rfl)) (He.exm_ok (c.fact 49 (f := .exm "InvalidArgument" "InvalidArgument" true) rfl)) G_numbered⟩⟩
  have G__law_bag : Def P w K mg base CX0 1 "_law_bag" p__law_bag (spBag K) := ⟨⟨_, fd__law_bag, He.glo_ok X G (c.fact 21 (f := .glo "_law_bag") rfl), Fd__law_bag.kp, Fd__law_bag.bindsN (ps := p__law_bag) (fun _ _ _ _ _ _ us hl => match us, hl with | [_], _ => rfl), ok_bag Fd__law_bag T⟩⟩
  have G__law_draw : Def P w K mg base CX0 1 "_law_draw" p__law_draw spDraw := ⟨⟨_, fd__law_draw, He.glo_ok X G (c.fact 22 (f := .glo "_law_draw") rfl), Fd__law_draw.kp, Fd__law_draw.bindsN (ps := p__law_draw) (fun _ _ _ _ _ _ us hl => match us, hl with | [_, _], _ => rfl), ok_draw Fd__law_draw T⟩⟩
  have G__law_one : Def P w K mg base CX0 2 "_law_one" p__law_one (spOne K) := ⟨⟨_, fd__law_one, He.glo_ok X G (c.fact 23 (f := .glo "_law_one") rfl), Fd__law_one.kp, Fd__law_one.bindsN (ps := p__law_one) (fun _ _ _ _ _ _ us hl => match us, hl with | [_, _], _ => rfl), ok_one Fd__law_one T G__law_draw⟩⟩
  have G__law_words : Def P w K mg base CX0 2 "_law_words" p__law_words (spWords K) := ⟨⟨_, fd__law_words, He.glo_ok X G (c.fact 24 (f := .glo "_law_words") rfl), Fd__law_words.kp, Fd__law_words.bindsN (ps := p__law_words) (fun _ _ _ _ _ _ us hl => match us, hl with | [_, _, _, _], _ => rfl), ok_words Fd__law_words T G__law_draw⟩⟩
  have S0 : Def P w K mg base CX0 0 "_law_same" p__law_same (spSame K 0) := ⟨⟨_, fd__law_same, He.glo_ok X G (c.fact 25 (f := .glo "_law_same") rfl), Fd__law_same.kp, Fd__law_same.bindsN (ps := p__law_same) (fun _ _ _ _ _ _ us hl => match us, hl with | [_, _], _ => rfl), same_0 Fd__law_same⟩⟩
  have S1 : Def P w K mg base CX0 1 "_law_same" p__law_same (spSame K 1) := ⟨⟨_, fd__law_same, He.glo_ok X G (c.fact 25 (f := .glo "_law_same") rfl), Fd__law_same.kp, Fd__law_same.bindsN (ps := p__law_same) (fun _ _ _ _ _ _ us hl => match us, hl with | [_, _], _ => rfl), ok_same Fd__law_same T S0⟩⟩
  have S2 : Def P w K mg base CX0 2 "_law_same" p__law_same (spSame K 2) := ⟨⟨_, fd__law_same, He.glo_ok X G (c.fact 25 (f := .glo "_law_same") rfl), Fd__law_same.kp, Fd__law_same.bindsN (ps := p__law_same) (fun _ _ _ _ _ _ us hl => match us, hl with | [_, _], _ => rfl), ok_same Fd__law_same T S1⟩⟩
  have S3 : Def P w K mg base CX0 3 "_law_same" p__law_same (spSame K 3) := ⟨⟨_, fd__law_same, He.glo_ok X G (c.fact 25 (f := .glo "_law_same") rfl), Fd__law_same.kp, Fd__law_same.bindsN (ps := p__law_same) (fun _ _ _ _ _ _ us hl => match us, hl with | [_, _], _ => rfl), ok_same Fd__law_same T S2⟩⟩
  have S4 : Def P w K mg base CX0 4 "_law_same" p__law_same (spSame K 4) := ⟨⟨_, fd__law_same, He.glo_ok X G (c.fact 25 (f := .glo "_law_same") rfl), Fd__law_same.kp, Fd__law_same.bindsN (ps := p__law_same) (fun _ _ _ _ _ _ us hl => match us, hl with | [_, _], _ => rfl), ok_same Fd__law_same T S3⟩⟩
  have G__law_history : Def P w K mg base CX0 3 "_law_history" p__law_history (spHist K) := ⟨⟨_, fd__law_history, He.glo_ok X G (c.fact 26 (f := .glo "_law_history") rfl), Fd__law_history.kp, Fd__law_history.bindsN (ps := p__law_history) (fun _ _ _ _ _ _ us hl => match us, hl with | [_], _ => rfl), ok_history Fd__law_history T G__law_draw G__law_one G__law_words⟩⟩
  have G__law_turns : Def P w K mg base CX0 1 "_law_turns" p__law_turns (spTurns K) := ⟨⟨_, fd__law_turns, He.glo_ok X G (c.fact 27 (f := .glo "_law_turns") rfl), Fd__law_turns.kp, Fd__law_turns.bindsN (ps := p__law_turns) (fun _ _ _ _ _ _ us hl => match us, hl with | [_], _ => rfl), ok_turns Fd__law_turns T⟩⟩
  have G__law_back : Def P w K mg base CX0 1 "_law_back" p__law_back (spBack K) := ⟨⟨_, fd__law_back, He.glo_ok X G (c.fact 28 (f := .glo "_law_back") rfl), Fd__law_back.kp, Fd__law_back.bindsN (ps := p__law_back) (fun _ _ _ _ _ _ us hl => match us, hl with | [_], _ => rfl), ok_back Fd__law_back T⟩⟩
  have G__law_changed : Def P w K mg base CX0 3 "_law_changed" p__law_changed (spChanged K) := ⟨⟨_, fd__law_changed, He.glo_ok X G (c.fact 30 (f := .glo "_law_changed") rfl), Fd__law_changed.kp, Fd__law_changed.bindsN (ps := p__law_changed) (fun _ _ _ _ _ _ us hl => match us, hl with | [_, _], _ => rfl), ok_changed Fd__law_changed T G__law_draw G__law_one⟩⟩
  exact ok_law Fd_law T G__law_bag G__law_history G__law_turns S4 G_aged G__law_told G_numbered G__law_changed G__law_back
end
end K13
open PySem PySem.W PySem.Calls PyProof.Rows
theorem PySem.Challenge.cw_openruns_k13_ages_and_numbers_holds : PySem.Challenge.rw_openruns_k13_ages_and_numbers.Holds := by
  w_on; o_law
  refine HandSHeadRun.head_any (r := K13.Row0) (q := view K13.Row0.prog [39]) (H := K13.hk) (ob := K13.ob) (M := 6000) (loose := K13.loose) (d := HandSHeadRun.topDef K13.Row0.prog 39) (kwd := []) K13.ob_eq
    (by kernel_rfl) (fun s => by kernel_rfl) K13.run (by kernel_rfl) (by kernel_rfl) (by kernel_rfl) (by rfl) (by first | assumption | decide +kernel) (by decide +kernel) ⟨rfl, rfl, rfl, rfl, rfl, by decide +kernel⟩ ?hw ?hc
  case hw => w_witness2
  case hc =>
    refine L2.walk_ofE (l := PySem.Challenge.rw_openruns_k13_ages_and_numbers) (n := 63) (k := 8) (x := "_law_script") (CX := L2.CX0) rfl (by decide) (by kernel_rfl) ⟨rfl, by decide, by decide⟩ ?F (fun _ _ _ _ z => z)
    intro w mg fa h Y G hmg0
    obtain ⟨K, KX, c⟩ := Y
    have hmg : mg ("law" : PySem.Str) = some (.ref fa) := by
      have e : (HandSHeadRun.topDef K13.Row0.prog 39).name = ("law" : PySem.Str) := by kernel_rfl
      rw [← e]
      exact hmg0
    obtain ⟨fd, hb, hF⟩ := K13.facts (P := (PySem.Challenge.rw_openruns_k13_ages_and_numbers).prog) (w := w) KX G hmg c.more c.t
    exact ⟨K, fd, K13.spLaw K, KX, hb, fun H a ns hl _ hS => ⟨a, ns, rfl, hS, hl, fun _ => rfl⟩, hF⟩
#print axioms PySem.Challenge.cw_openruns_k13_ages_and_numbers_holds
