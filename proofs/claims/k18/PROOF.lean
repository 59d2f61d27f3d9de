import PyProof.Rows.All
import HandS.ForMost
import HandS.Set
import HandS.SetBool
import HandS.SetTxt0
import HandS.SetKeys
import HandS.Strs
import PyProof.Rows.SortShellAny
import HandS.DictComp
import Wide.All
import OpenK.AllK
import Wide.FinOn
import HandS.Exc
import HandS.ExcInit
import HandS.ExcField
import HandS.IsInst
import HandS.ExcIs
import KE.KExcInit
import KE.KExcIs
import HandS.Wide
import HandS.HeadHook2
import HandS.HeadEnd
import HandS.Head2
import HandS.ListEq
import HandS.Flow
import HandS.Codes
import HandS.Steps
import HandS.ClsMeth
import HandS.Defaults
import HandS.CallRecv
import HandS.SetFor
import HandS.HeadHook4
import HandS.TryOnly
import HandS.Zip
import HandS.Walk
import HandS.More
import HandS.ExcOwn
import HandS.WordsExc
import HandS.TupAny
import HandS.MakeKwOnly
import KE.KEqDict
import PyProof.P3Eq
import HandS.TryMany
import PyProof.StrOps2
import PyProof.Rows.StrMeet
import HandS.Star
import HandS.Style
import PySem.Challenge.RW_openruns_k18_program_text
set_option Elab.async false
set_option maxRecDepth 100000
set_option maxHeartbeats 4000000
set_option linter.all false
/-! sets of texts that can be walked: their members in a list, by an order of no meaning -/
namespace TS2
open PySem PySem.Spec PyProof.Rows L2 PySem.Froz
def wordAt (e : Int × Value) : Str := match e.2 with | .str k _ => k | _ => Str.empty
/-- what stands in a set: the texts l, each once, in a table that can be walked -/
structure TxR (P : PySem.Program) (w : World) (D : SD) (l : List Str) : Prop where
  ok : TxOk P w D l
  nd : l.Nodup
  keys : (D.1.toList.map wordAt).Perm l
  txt : ∀ e ∈ D.1.toList, ∃ k u, e.2 = Value.str k u
  ris : Ris D.2.2.place.toList
  led : w.params.followText "set-order" = true ∨ D.2.2.led = true
section
variable {P : PySem.Program} {w : World}
theorem TxR.none {ep : Nat} {t : SetTable} (hf : t.fits 0 = true) (hr : Ris t.place.toList) (hl : w.params.followText "set-order" = true ∨ t.led = true) : TxR P w (#[], ep, t) [] :=
  ⟨TxOk.nil hf, List.nodup_nil, List.Perm.refl _, fun e he => by simp at he, hr, hl⟩
theorem tail_fields (ep : Nat) (es1 : Array (Int × Value)) (t2 : SetTable) (wd : Bool) :
    (tailTx ep es1 t2 wd).1.toList.Perm es1.toList ∧ (Ris t2.place.toList → Ris (tailTx ep es1 t2 wd).2.2.place.toList) ∧ ((tailTx ep es1 t2 wd).2.2.led = t2.led) := by
  unfold tailTx
  by_cases c : (!wd && t2.tooFull) = true
  · rw [if_pos c]
    exact ⟨relayAll_perm t2 es1 _, fun _ => relayAll_ris t2 es1 _, relayAll_led t2 es1 _⟩
  · rw [if_neg c]
    exact ⟨List.Perm.refl _, id, rfl⟩
theorem TxR.add {D : SD} {l : List Str} {k : Str} (u : Tok) (F : TxR P w D l) (hk : k ∉ l) : TxR P w (addTx (hashStr w k) (.str k u) D) (k :: l) := by
  obtain ⟨es, ep, t⟩ := D
  have pm := layNew_perm t es (hashStr w k) (.str k u)
  have hr := layNew_ris t es (hashStr w k) (.str k u) F.ris
  have hl := layNew_led t es (hashStr w k) (.str k u)
  rw [Array.toList_push] at pm
  have pc := pm.trans (List.perm_append_singleton _ _)
  have tf := tail_fields ep (layNew t es (hashStr w k) (.str k u)).1 (if (layNew t es (hashStr w k) (.str k u)).2.1.plain = true then { (layNew t es (hashStr w k) (.str k u)).2.1 with plain := false } else (layNew t es (hashStr w k) (.str k u)).2.1) (layNew t es (hashStr w k) (.str k u)).2.2.1
  have pt := tf.1.trans pc
  refine ⟨add_ok u F.ok, List.nodup_cons.mpr ⟨hk, F.nd⟩, (pt.map wordAt).trans ?_, fun e he => ?_, tf.2.1 ?_, F.led.imp id fun z => ?_⟩
  · rw [List.map_cons]
    exact F.keys.cons _
  · rcases List.mem_cons.mp (pt.mem_iff.mp he) with z | z
    · exact ⟨k, u, by rw [z]⟩
    · exact F.txt e z
  · split
    · exact hr
    · exact hr
  · refine tf.2.2.trans ?_
    split
    · exact hl.trans z
    · exact hl.trans z
/-- the set of texts at a -/
def TxSet (P : PySem.Program) (w : World) (h : Heap) (a : Addr) (l : List Str) : Prop := ∃ D : SD, h.get? a = some (sObj "set" D) ∧ TxR P w D l
def TxO (P : PySem.Program) (w : World) (a : Addr) (l : List Str) : HO := .ext fun h => TxSet P w h a l
/-- k put into l -/
def put (l : List Str) (k : Str) : List Str := if k ∈ l then l else k :: l
theorem put_len (l : List Str) (k : Str) : (put l k).length ≤ l.length + 1 := by
  unfold put
  split
  · omega
  · exact Nat.le_refl _
theorem TxSet.keep {h h' : Heap} {a : Addr} {l : List Str} (R : TxSet P w h a l) (k : ∀ o, h.get? a = some o → h'.get? a = some o) : TxSet P w h' a l := by
  obtain ⟨D, e, r⟩ := R
  exact ⟨D, k _ e, r⟩
theorem txO_new {H : Hp} {h : Heap} {a : Addr} {l : List Str} (R : TxSet P w h a l) : ObjOk P w H h a (TxO P w a l) := by
  have ⟨D, e, _⟩ := R
  exact ⟨R, ⟨_, e⟩, fun h1 h2 p k => TxSet.keep p k⟩
theorem txSet_fresh {h : Heap} : TxSet P w (h.push { cls := .type "set", dict := Option.none, data := .set #[] 0 (.fresh 0 0 (!w.params.followText "set-order")) }) h.objs.size [] :=
  ⟨(#[], 0, _), Heap.get?_push_size _ rfl, TxR.none (by rfl) List.Pairwise.nil (by
    show _ ∨ (!w.params.followText "set-order") = true
    cases w.params.followText "set-order"
    · exact .inr rfl
    · exact .inl rfl)⟩
variable {A : Around} {E : Value → Shared → Prop} {s : Shared} {a : Addr} {l : List Str}
theorem hashed_old {D : SD} {k : Str} {u : Tok} {Q : Bool → Shared → Prop} (ho : s.heap.get? a = some (sObj "set" D)) (F : TxOk P w D l) (hk : k ∈ l) (hb : l.length < scanBound) (h : Q false s) :
    wpAny (model P w) A (setAddHashed a (.str k u) (hashStr w k)) Q E s := by
  obtain ⟨es, ep, t⟩ := D
  have hd : (sObj "set" (es, ep, t)).data = .set es ep t := rfl
  have hsz : es.size = l.length := F.sz
  have hb0 : es.size < scanBound := by omega
  have hkey : (strKind P w).is k (.str k u) = true := is_str k u
  unfold setAddHashed setAddHashedIn
  refine wpAny_holding (wpAny_bind (wpAny_setState_of ho hd F.fit ?_))
  dsimp only
  rw [byScan_of rfl hb0 F.el]
  simp only [↓reduceIte]
  unfold setAddByScan
  refine wpAny_bind ?_
  refine wpAny_bind (wpAny_rule ?_)
  refine wpAny_bind (wpAny_setScan_of (knd := strKind P w) (k := k) hkey ho hd F.fit F.el ?_)
  have hs : (List.findIdx? (fun e => (strKind P w).is k e.2) es.toList).isSome = true := by
    rw [List.findIdx?_isSome]
    obtain ⟨e, he, q⟩ := (F.mem k).mp hk
    exact List.any_eq_true.mpr ⟨e, he, q⟩
  obtain ⟨j, hj⟩ := Option.isSome_iff_exists.mp hs
  rw [hj]
  dsimp only
  exact wpAny_pure (wpAny_pure h)
theorem setTx_of {D : SD} (ho : s.heap.get? a = some (sObj "set" D)) (F : TxOk P w D l) (hb : l.length < scanBound) : s.heap.SetOf (strKind P w) a (fun k => decide (k ∈ l)) l.length := by
  obtain ⟨es, ep, t⟩ := D
  have hsz : es.size = l.length := F.sz
  exact ⟨_, es, ep, t, ho, ⟨rfl, rfl, rfl⟩, rfl, F.el, fun k => by rw [decide_eq_true_eq]; exact F.mem k, by rw [hsz]; exact hb, F.fit, hsz⟩
/-- s.add(k) -/
theorem tx_add {k : Str} {u : Tok} {Q : Value → Shared → Prop} (R : TxSet P w s.heap a l) (room : l.length + 1 < scanBound)
    (hQ : ∀ h', Heap.SameBut a s.heap h' → TxSet P w h' a (put l k) → Q .none { s with heap := h', toks := s.toks + 1 }) :
    wpAny (model P w) A (call (.builtin "set.add") [.ref a, .str k u]) Q E s := by
  obtain ⟨D, ho, G⟩ := R
  have hS := setTx_of ho G.ok (by omega)
  refine wpAny_call_entry F.slot_set_add hS.typeIs F.entry_set_add ?_ (F.args_set_add_2 _ _)
  unfold Builtin.«set.add» Builtin.Frozenset.oneOther
  simp only [List.isEmpty_nil, bind_assoc]
  unfold Builtin.Frozenset.addrOf setAdd
  refine wpAny_bind (wpAny_pure ?_)
  try dsimp only
  refine wpAny_bind (wpAny_pure ?_)
  try dsimp only
  refine wpAny_bind ?_
  refine wpAny_holding ?_
  refine wpAny_bind ((strKind P w).pyHash (is_str k u) ?_)
  by_cases hk : k ∈ l
  · refine hashed_old (s := { s with toks := s.toks + 1 }) ho G.ok hk (by omega) ?_
    show wpAny _ _ (ret Value.none) _ _ _
    exact wpAny_pure ⟨_, rfl, hQ s.heap (Heap.SameBut.refl a s.heap) ⟨D, ho, by rw [put, if_pos hk]; exact G⟩⟩
  · refine add_x (s := { s with toks := s.toks + 1 }) ho G.ok hk room ?_
    show wpAny _ _ (ret Value.none) _ _ _
    refine wpAny_pure ⟨_, rfl, hQ _ (Heap.SameBut.update s.heap a _) ⟨addTx (hashStr w k) (.str k u) D, get_upd _ ho rfl, ?_⟩⟩
    rw [put, if_neg hk]
    exact G.add u hk
end
section
variable {X : Cx}
theorem txO_get {pins : List (Addr × Obj)} {σ : L2.St} {H : Hp} {s : Shared} {a : Addr} {l : List Str} (I : Inv X pins σ H s) (ha : H a = some (TxO X.prog X.w a l)) : TxSet X.prog X.w s.heap a l := (I.hok a _ ha).1
theorem addT_ok {pins : List (Addr × Obj)} {σ : L2.St} {H : Hp} {s : Shared} {E : Value → Shared → Prop} {D : Addr} {l : List Str} {k : Str} {u : Tok} {Q : Value → Shared → Prop} (I : Inv X pins σ H s) (hD : H D = some (TxO X.prog X.w D l)) (room : l.length + 1 < scanBound)
    (h : ∀ s', Inv X pins σ (upd H D (TxO X.prog X.w D (put l k))) s' → Q .none s') : wpAny (model X.prog X.w) X.A (call (.builtin "set.add") [.ref D, .str k u]) Q E s := by
  refine tx_add (txO_get I hD) room fun h' sb new => ?_
  have ⟨_, e, _⟩ := id new
  exact h _ (I.write (e := D) (t' := s.toks + 1) (by rw [hD]; trivial) (.inl rfl) (fun b o hb hu => (sb.2 b hb).trans hu) ⟨_, e⟩ (txO_new new))
end
end TS2

set_option Elab.async false
set_option maxRecDepth 100000
set_option maxHeartbeats 4000000
set_option linter.all false
/-! {elt for t0 in i0 for t1 in i1}: texts into a new set -/
namespace TS2
open PySem PySem.Spec PyProof.Rows L2
abbrev SC2 (elt t0 i0 t1 i1 : Expr) (sc : Scope) (pos : Pos) : Expr := .SetComp elt [⟨t0, i0, [], 0⟩, ⟨t1, i1, [], 0⟩] sc pos
section
variable {P : PySem.Program} {w : World} {A : Around} {R : Result → Shared → Prop} {s : Shared} {elt t0 i0 t1 i1 : Expr} {sc : Scope} {pos : Pos} {it acc : Value} {env : Env}
theorem turn_out (elt t0 i0 t1 i1 : Expr) (sc : Scope) (pos : Pos) (it acc : Value) (env : Env) : compTurn (SC2 elt t0 i0 t1 i1 sc pos) 0 it acc env = (do
    standAt i0.pos
    match ← pyNext it with
    | none => pure (.done .next)
    | some v =>
      letOwnedTupleGo t0 it v
      assign t0 env v
      let x ← eval i1 env
      standAt i1.pos
      let x ← foldedSetIterable i1 env x
      let _ ← runOwn (.compStart (SC2 elt t0 i0 t1 i1 sc pos) 1 (← holding [x] (pyIter x)) acc env) env
      again (.compLoop (SC2 elt t0 i0 t1 i1 sc pos) 0 it acc env)) := by rfl
theorem turn_in (elt t0 i0 t1 i1 : Expr) (sc : Scope) (pos : Pos) (it acc : Value) (env : Env) : compTurn (SC2 elt t0 i0 t1 i1 sc pos) 1 it acc env = (do
    standAt i1.pos
    match ← pyNext it with
    | none => pure (.done .next)
    | some v =>
      letOwnedTupleGo t1 it v
      assign t1 env v
      (do let v ← eval elt env; standAt elt.pos; let _ ← call (.builtin "set.add") [acc, v])
      again (.compLoop (SC2 elt t0 i0 t1 i1 sc pos) 1 it acc env)) := by rfl
abbrev Nb (P : PySem.Program) (w : World) (A : Around) (env : Env) (R : Result → Shared → Prop) : Value → Shared → Prop := notedBy (model P w) A env fun e s' => R (.error e) s'
theorem loop_out (hs : ∀ x, foldedSetIterable i1 env x = pure x) (I : Nat → Shared → Prop)
    (turn : ∀ n s, I n s → wpAny (model P w) A (pyNext it) (fun r s1 => match r with
      | none => R (.ok .next) s1
      | some v => wpAny (model P w) A (letOwnedTupleGo t0 it v) (fun _ s2 => wpAny (model P w) A (assign t0 env v) (fun _ s3 =>
          wpAny (model P w) A (eval i1 env) (fun x s4 => wpAny (model P w) A (pyIter x) (fun it1 s5 =>
            codeAny (model P w) A (.compStart (SC2 elt t0 i0 t1 i1 sc pos) 1 it1 acc env) (fun r s' => match r with
              | .ok _ => ∃ m, m < n ∧ I m s'
              | .error _ => False) s5) (Nb P w A env R) s4) (Nb P w A env R) s3) (Nb P w A env R) s2) (Nb P w A env R) s1) (Nb P w A env R) s)
    (n : Nat) (h : I n s) : codeAny (model P w) A (.compLoop (SC2 elt t0 i0 t1 i1 sc pos) 0 it acc env) R s := by
  refine codeAny_loop rfl I (fun n s hI => ?_) n h
  show wpAny _ A ((compTurn (SC2 elt t0 i0 t1 i1 sc pos) 0 it acc env).onRaise (fun x => do noteFrame x env; theTreesLotGoes x)) _ _ s
  refine wpAny_noted ?_
  rw [turn_out]
  refine wpAny_bind (wpAny_standAt (wpAny_bind (wpAny_mono (turn n s hI) (fun r s1 g1 => ?_) fun _ _ z => z)))
  cases r with
  | none => exact wpAny_pure g1
  | some v =>
    refine wpAny_bind (wpAny_mono g1 (fun _ s2 g2 => ?_) fun _ _ z => z)
    refine wpAny_bind (wpAny_mono g2 (fun _ s3 g3 => ?_) fun _ _ z => z)
    refine wpAny_bind (wpAny_mono g3 (fun x s4 g4 => ?_) fun _ _ z => z)
    refine wpAny_bind (wpAny_standAt (wpAny_bind (wpAny_of_eq (hs x) (wpAny_bind (wpAny_holding (wpAny_mono g4 (fun it1 s5 g5 => ?_) fun _ _ z => z))))))
    refine wpAny_bind (wpAny_runOwn ?_)
    rw [Around.mark_none]
    refine codeAny_mono g5 fun r s' hr => ?_
    cases r with
    | ok f =>
      first
        | exact wpAny_pure ⟨rfl, hr⟩
        | exact wpAny_bind (wpAny_pure (wpAny_pure ⟨rfl, hr⟩))
    | error e => exact hr.elim
theorem loop_in (I : Nat → Shared → Prop)
    (turn : ∀ n s, I n s → wpAny (model P w) A (pyNext it) (fun r s1 => match r with
      | none => R (.ok .next) s1
      | some v => wpAny (model P w) A (letOwnedTupleGo t1 it v) (fun _ s2 => wpAny (model P w) A (assign t1 env v) (fun _ s3 =>
          wpAny (model P w) A (eval elt env) (fun x s4 => wpAny (model P w) A (call (.builtin "set.add") [acc, x]) (fun _ s5 => ∃ m, m < n ∧ I m s5) (Nb P w A env R) s4) (Nb P w A env R) s3) (Nb P w A env R) s2) (Nb P w A env R) s1) (Nb P w A env R) s)
    (n : Nat) (h : I n s) : codeAny (model P w) A (.compLoop (SC2 elt t0 i0 t1 i1 sc pos) 1 it acc env) R s := by
  refine codeAny_loop rfl I (fun n s hI => ?_) n h
  show wpAny _ A ((compTurn (SC2 elt t0 i0 t1 i1 sc pos) 1 it acc env).onRaise (fun x => do noteFrame x env; theTreesLotGoes x)) _ _ s
  refine wpAny_noted ?_
  rw [turn_in]
  refine wpAny_bind (wpAny_standAt (wpAny_bind (wpAny_mono (turn n s hI) (fun r s1 g1 => ?_) fun _ _ z => z)))
  cases r with
  | none => exact wpAny_pure g1
  | some v =>
    refine wpAny_bind (wpAny_mono g1 (fun _ s2 g2 => ?_) fun _ _ z => z)
    refine wpAny_bind (wpAny_mono g2 (fun _ s3 g3 => ?_) fun _ _ z => z)
    exact wpAny_bind (wpAny_bind (wpAny_mono g3 (fun x s4 g4 => wpAny_bind (wpAny_standAt (wpAny_bind (wpAny_mono g4 (fun _ s5 g5 => wpAny_pure (wpAny_pure ⟨rfl, g5⟩)) fun _ _ z => z)))) fun _ _ z => z))
theorem start_in (h0 : codeAny (model P w) A (.compLoop (SC2 elt t0 i0 t1 i1 sc pos) 1 it acc env) R s)
    (h : wpAny (model P w) A (pyIter it) (fun it' s' => codeAny (model P w) A (.compLoop (SC2 elt t0 i0 t1 i1 sc pos) 1 it' acc env) R s') (Nb P w A env R) s) :
    codeAny (model P w) A (.compStart (SC2 elt t0 i0 t1 i1 sc pos) 1 it acc env) R s := by
  refine codeAny_of_tree ?_
  show wpAny _ _ ((compStart (SC2 elt t0 i0 t1 i1 sc pos) 1 it acc env).onRaise (fun x => do noteFrame x env; standAt theWindowsPlace)) _ _ s
  refine wpAny_notedAt ?_
  unfold compStart
  show wpAny _ _ (ask >>= _) _ _ s
  refine wpAny_bind (wpAny_askSetting (wpAny_ite ?_))
  split
  · first
      | exact wpAny_bind (wpAny_pure (wpAny_pure (And.intro rfl h0)))
      | exact wpAny_pure (And.intro rfl h0)
  · first
      | exact wpAny_bind (wpAny_rule (wpAny_bind (wpAny_standAt (wpAny_bind (wpAny_mono h (fun it' s' q => wpAny_pure (And.intro rfl q)) fun _ _ x => x)))))
      | (refine wpAny_bind (wpAny_rule ?_); show wpAny _ _ (standAt i1.pos >>= _) _ _ s; exact wpAny_bind (wpAny_standAt (wpAny_bind (wpAny_mono h (fun it' s' q => wpAny_pure (And.intro rfl q)) fun _ _ x => x))))
end
section
variable {X : Cx}
/-- the reading: an outer walk by W, each turn of it an inner walk by W1, each turn of that puts a text into D -/
def tSc2 (P : PySem.Program) (w : World) (wi : TI) (g : TG) (wi1 : TI) (g1 : TG) (te : TE) (vs vs1 : List Nat) : TE := fun σ H Q => wi σ H fun J H1 => ∀ D, H1 D = none → ∃ W : Nat → Nat → Hp → Prop, (∃ m, W 0 m (upd H1 D (TxO P w D []))) ∧ ∀ i m H, W i m H →
  (J.stop i H ∧ Q (.ref D) H) ∨ (J.go i H ∧ ∃ Nx : Hp → Prop, (∀ H', Nx H' → ∃ m', m' < m ∧ W (i + 1) m' H') ∧ ∀ x H', J.yld i H x H' → g x (wipe σ vs) H' fun σ2 H2 => wipe σ2 vs = wipe σ vs ∧
    wi1 σ2 H2 fun J1 H4 => ∃ W1 : Nat → Nat → Hp → Prop, (∃ m, W1 0 m H4) ∧ ∀ j k H, W1 j k H →
      (J1.stop j H ∧ Nx H) ∨ (J1.go j H ∧ ∃ Nx1 : Hp → Prop, (∀ H', Nx1 H' → ∃ k', k' < k ∧ W1 (j + 1) k' H') ∧ ∀ x H', J1.yld j H x H' → g1 x (wipe σ2 vs1) H' fun σ3 H5 => wipe σ3 vs1 = wipe σ2 vs1 ∧
        te σ3 H5 fun y H7 => ∃ (k : Str) (l : List Str), y = .str k ∧ H7 D = some (TxO P w D l) ∧ l.length + 1 < scanBound ∧ Nx1 (upd H7 D (TxO P w D (put l k)))))
theorem pe_sc2 {elt t0 i0 t1 i1 : Expr} {sc : Scope} {own : List (Str × Nat)} {vs1 : List Nat} {pos : Pos} {wi wi1 : TI} {g g1 : TG} {te : TE} (calm : X.calm = true) (nd : X.N.Nodup) (hi : PI X t0 i0 wi) (ok : BlkOk X.N X.env.scope sc own) (hv : ∀ i ∈ vs1, i ∈ own.map (·.2))
    (hg : ∀ (s : Shared) (H : Hp) (C : Addr) (cl : List (Str × Addr)) (fp : List Addr), PG (X.blk s H sc (compEnvC sc cl C X.env) fp) t0 g)
    (hi1 : ∀ (s : Shared) (H : Hp) (C : Addr) (cl : List (Str × Addr)) (fp : List Addr), PI (X.blk s H sc (compEnvC sc cl C X.env) fp) t1 i1 wi1)
    (hg1 : ∀ (s : Shared) (H : Hp) (C : Addr) (cl : List (Str × Addr)) (fp : List Addr), PG (X.blk s H sc (compEnvC sc cl C X.env) fp) t1 g1)
    (he : ∀ (s : Shared) (H : Hp) (C : Addr) (cl : List (Str × Addr)) (fp : List Addr), PE (X.blk s H sc (compEnvC sc cl C X.env) fp) elt te) (hs : ∀ x, foldedSetIterable i0 X.env x = pure x := by intro _; rfl)
    (hs1 : ∀ env x, foldedSetIterable i1 env x = pure x := by intro _ _; rfl) : PE X (SC2 elt t0 i0 t1 i1 sc pos) (tSc2 X.prog X.w wi g wi1 g1 te (own.map (·.2)) vs1) := by
  refine ⟨fun pins s σ H Q I h => ?_⟩
  rw [PpSet.eval_SetComp]
  have frees : ∀ y ∈ sc.names, y.2 = .free → ∃ c, X.env.cells.lookup y.1 = some c := fun y hy e =>
    (ok.free y hy e).elim (fun z => I.ok.has _ (.inl z)) fun z => I.ok.has _ (.inr z)
  refine wpAny_comprehension_free (use := none) rfl hs (closure_ok frees) ok.kind (fun y hy e => by rw [ok.uniq y hy, e]) (thn (hi.run pins s σ H _ I h) fun xv sA hx => thn hx fun itv sB hB => ?_)
  obtain ⟨it, fp, tn, J, HB, rfl, IB, T, stB, fB, q⟩ := hB
  refine PpSet.newSet_ok (newEnv_comp ?_)
  obtain ⟨W, ⟨m0, w0⟩, turn⟩ := q sB.heap.objs.size (IB.hok.fresh (Nat.le_refl _))
  generalize eD : sB.heap.objs.size = D at w0 turn
  generalize eC : ({ sB with heap := sB.heap.push { cls := .type "set", dict := none, data := .set #[] 0 (.fresh 0 0 (!X.w.params.followText "set-order")) } } : Shared) = sC
  have hC : sC.heap = sB.heap.push { cls := .type "set", dict := none, data := .set #[] 0 (.fresh 0 0 (!X.w.params.followText "set-order")) } := by rw [← eC]
  generalize eH : upd HB D (TxO X.prog X.w D []) = HC at w0
  have IC : Inv X pins σ HC sC := by
    rw [← eC, ← eH]
    refine IB.laid (t' := sB.toks) (fun b o e => Heap.get?_push_of_some _ e) (Nat.le_of_eq eD) (txO_new ?_)
    rw [← eD]
    exact txSet_fresh
  have young : ∀ b ∈ fp, b < sB.heap.objs.size := fun b hb => (T.obj _ _ stB b hb).elim fun o e => Heap.lt_size e.1
  have fC : ∀ b ∈ fp, FpOk X pins HC b ∧ b < sC.heap.objs.size := fun b hb => by
    have lt := young b hb
    have nb : HC b = none := by
      rw [← eH, upd_ne (by rw [← eD]; exact Nat.ne_of_lt lt)]
      exact (fB b hb).1
    exact ⟨⟨nb, (fB b hb).2⟩, by rw [hC, Heap.size_push]; exact Nat.lt_succ_of_lt lt⟩
  have stC : tn 0 sC.heap := T.keep _ _ _ stB fun b _ o e => by rw [hC]; exact Heap.get?_push_of_some _ e
  have IE := block_start IC ok nd fC
  have pg := hg sC HC sC.heap.objs.size (cellsFrom (sC.heap.objs.size + 1) sc.names (cloFrom X.env.cells sc.names [])) fp
  have pe := he sC HC sC.heap.objs.size (cellsFrom (sC.heap.objs.size + 1) sc.names (cloFrom X.env.cells sc.names [])) fp
  have pi1 := hi1 sC HC sC.heap.objs.size (cellsFrom (sC.heap.objs.size + 1) sc.names (cloFrom X.env.cells sc.names [])) fp
  have pg1 := hg1 sC HC sC.heap.objs.size (cellsFrom (sC.heap.objs.size + 1) sc.names (cloFrom X.env.cells sc.names [])) fp
  show codeAny _ _ (.compStart (SC2 elt t0 i0 t1 i1 sc pos) 0 (.ref it) (.ref D) (compEnvC sc (cellsFrom (sC.heap.objs.size + 1) sc.names (cloFrom X.env.cells sc.names [])) sC.heap.objs.size X.env)) (compPost (model X.prog X.w) X.A X.xe none (EP X pins σ Q) (.ref D) sC.heap.objs.size) { sC with heap := pushCells (sC.heap.push { cls := .type "dict", data := .dict #[] }) sc.names }
  generalize eN : compEnvC sc (cellsFrom (sC.heap.objs.size + 1) sc.names (cloFrom X.env.cells sc.names [])) sC.heap.objs.size X.env = ce at IE pg pe pi1 pg1 ⊢
  have eL : ce.locals = sC.heap.objs.size := by rw [← eN]; rfl
  generalize eE : ({ sC with heap := pushCells (sC.heap.push { cls := .type "dict", data := .dict #[] }) sc.names } : Shared) = sE at IE ⊢
  have stE : tn 0 sE.heap := T.keep _ _ _ stC fun b _ o e => by rw [← eE]; exact pushCells_keeps _ _ _ _ (Heap.get?_push_of_some _ e)
  have nfp : ∀ b ∈ fp, HC b = none := fun b hb => (fC b hb).1.1
  have stat : ∀ {σ' : L2.St} {H' : Hp} {s' : Shared}, Inv (X.blk sC HC sc ce fp) [] σ' H' s' → (∀ b ∈ fp, H' b = none) → ∀ b ∈ fp, FpOk (X.blk sC HC sc ce fp) [] H' b := fun {σ' H' s'} I' hn b hb =>
    ⟨hn b hb, (I'.ok.exf b hb).1, I'.ok.exfs b hb, .inl hb, fun x c e => (I'.ok.exf b hb).2 x c e, fun p hp => by simp at hp⟩
  have loop : codeAny (model X.prog X.w) X.A (.compLoop (SC2 elt t0 i0 t1 i1 sc pos) 0 (.ref it) (.ref D) ce) (compPost (model X.prog X.w) X.A X.xe none (EP X pins σ Q) (.ref D) sC.heap.objs.size) sE := by
    refine loop_out (hs1 ce) (fun n s' => ∃ i H', Inv (X.blk sC HC sc ce fp) [] (wipe σ (own.map (·.2))) H' s' ∧ tn i s'.heap ∧ (∀ b ∈ fp, H' b = none) ∧ W i n H') ?_ m0 ⟨0, HC, IE, stE, nfp, w0⟩
    rintro n s5 ⟨i, H5, I5, st5, n5, w5⟩
    rcases turn i n H5 w5 with ⟨stop, qq⟩ | ⟨go, Nx, hNx, step⟩
    · refine thnF (T.done (X.blk sC HC sc ce fp) rfl rfl rfl calm i [] s5 _ H5 (fun _ _ => False) I5 (stat I5 n5) st5 stop) fun r s6 ⟨hr, I6⟩ => ?_
      subst hr
      have IG : Inv X pins σ H5 s6 := IC.call' (ch := fp) I6.os I6.base I6.hok I6.bare fun b hb => ⟨(fC b hb).1.2.2.2.1, (fC b hb).1.2.1, (fC b hb).1.2.2.2.2.1, (fC b hb).1.2.2.2.2.2⟩
      have nC : H5 sC.heap.objs.size = none := by
        have z : H5 ce.locals = none := I6.free
        rwa [eL] at z
      obtain ⟨m, hn, _⟩ := I6.loc
      have hn : s6.heap.Ns ce.locals m := hn
      rw [eL] at hn
      obtain ⟨f0, f1, f2, f3, f4, f5⟩ := IC.fpOk (Nat.le_refl _) nC
      exact ⟨m, hn, fun h'' sb => ⟨.ref D, H5, IG.turned (t' := s6.toks) (fun b o hb e => (sb.2 b hb).trans e) f0 f1 f3 f4 f5, rfl, qq⟩⟩
    · refine thnF (T.item (X.blk sC HC sc ce fp) rfl rfl rfl calm i [] s5 _ H5 (fun _ _ => False) I5 (stat I5 n5) st5 go) fun r s6 ⟨u, hr, h6⟩ => ?_
      subst hr
      refine thnF h6 fun _ s7 ⟨x, H7, I7, r7, y7, st7, n7⟩ => ?_
      have I7' := I7.pinned (stat I7 n7) (T.obj _ _ st7)
      refine thnF (pg.run _ s7 _ H7 x u _ I7' r7 (step x H7 y7)) fun _ s8 ⟨σ8, H8, I8, hw8, q8⟩ => ?_
      have fin : ∀ {σ9 : L2.St} {s' : Shared} {H' : Hp}, Inv (X.blk sC HC sc ce fp) ([] ++ pinsAt fp s7.heap) σ9 H' s' → (wipe σ (own.map (·.2))).length = σ9.length → (∀ (j : Nat) v, (wipe σ (own.map (·.2)))[j]? = some (some v) → σ9[j]? = some (some v)) → Nx H' →
          ∃ m, m < n ∧ ∃ i H', Inv (X.blk sC HC sc ce fp) [] (wipe σ (own.map (·.2))) H' s' ∧ tn i s'.heap ∧ (∀ b ∈ fp, H' b = none) ∧ W i m H' := fun {σ9 s' H'} I' hl hk nx => by
        obtain ⟨m', hm, w'⟩ := hNx H' nx
        have pin' : ∀ b ∈ fp, ∀ o, s7.heap.get? b = some o → s'.heap.get? b = some o ∧ H' b = none := fun b hb o e =>
          let z := I'.pin (b, o) (List.mem_append_right _ (List.mem_append_right _ (mem_pinsAt hb e)))
          ⟨z.1, z.2.1⟩
        refine ⟨m', hm, i + 1, H', (I'.unpinned (pins := [])).weak hl hk, T.keep _ _ _ st7 fun b hb o e => (pin' b hb o e).1, fun b hb => ?_, w'⟩
        obtain ⟨o, e, _⟩ := T.obj _ _ st7 b hb
        exact (pin' b hb o e).2
      have hl8 : (wipe σ (own.map (·.2))).length = σ8.length := by rw [← hw8, wipe_length]
      have hk9 : ∀ (j : Nat) v, (wipe σ (own.map (·.2)))[j]? = some (some v) → (wipe σ8 vs1)[j]? = some (some v) := fun j v e => by
        rw [← hw8] at e
        obtain ⟨e1, e2⟩ := wipe_some e
        rw [wipe_out fun z => e2 (hv j z)]
        exact e1
      refine thnF (pi1.run _ s8 σ8 H8 _ I8 q8) fun xv s10 hx => thnF hx fun itv s11 h11 => ?_
      obtain ⟨it1, fp1, tn1, J1, H11, e1, I11, T1, st11, f11, W1, ⟨m1, w1⟩, turn1⟩ := h11
      subst e1
      have stat1 : ∀ {H' : Hp}, (∀ b ∈ fp1, H' b = none) → ∀ b ∈ fp1, FpOk (X.blk sC HC sc ce fp) ([] ++ pinsAt fp s7.heap) H' b := fun hn b hb => ⟨hn b hb, (f11 b hb).2⟩
      have loop1 : codeAny (model X.prog X.w) X.A (.compLoop (SC2 elt t0 i0 t1 i1 sc pos) 1 (.ref it1) (.ref D) ce)
          (fun r s' => match r with
            | .ok _ => ∃ m, m < n ∧ ∃ i H', Inv (X.blk sC HC sc ce fp) [] (wipe σ (own.map (·.2))) H' s' ∧ tn i s'.heap ∧ (∀ b ∈ fp, H' b = none) ∧ W i m H'
            | .error _ => False) s11 := by
        refine loop_in (fun k s' => ∃ j H', Inv (X.blk sC HC sc ce fp) ([] ++ pinsAt fp s7.heap) (wipe σ8 vs1) H' s' ∧ tn1 j s'.heap ∧ (∀ b ∈ fp1, H' b = none) ∧ W1 j k H') ?_ m1 ⟨0, H11, I11.weak (wipe_length _ _) (fun j v e => (wipe_some e).1), st11, fun b hb => (f11 b hb).1, w1⟩
        rintro k s12 ⟨j, H12, I12, st12, n12, w12⟩
        rcases turn1 j k H12 w12 with ⟨stop1, nx1⟩ | ⟨go1, Nx1, hNx1, step1⟩
        · refine thnF (T1.done (X.blk sC HC sc ce fp) rfl rfl rfl calm j _ s12 (wipe σ8 vs1) H12 (fun _ _ => False) I12 (stat1 n12) st12 stop1) fun r s13 ⟨hr, I13⟩ => ?_
          subst hr
          exact fin I13 (hl8.trans (wipe_length σ8 vs1).symm) hk9 nx1
        · refine thnF (T1.item (X.blk sC HC sc ce fp) rfl rfl rfl calm j _ s12 (wipe σ8 vs1) H12 (fun _ _ => False) I12 (stat1 n12) st12 go1) fun r s13 ⟨u1, hr, h13⟩ => ?_
          subst hr
          refine thnF h13 fun _ s14 ⟨x1, H14, I14, r14, y14, st14, n14⟩ => ?_
          have I14' := I14.pinned (stat1 n14) (T1.obj _ _ st14)
          refine thnF (pg1.run _ s14 (wipe σ8 vs1) H14 x1 u1 _ I14' r14 (step1 x1 H14 y14)) fun _ s15 ⟨σ15, H15, I15, hw15, q15⟩ => ?_
          have fin1 : ∀ {s' : Shared} {H' : Hp}, Inv (X.blk sC HC sc ce fp) (([] ++ pinsAt fp s7.heap) ++ pinsAt fp1 s14.heap) σ15 H' s' → Nx1 H' → ∃ m, m < k ∧ ∃ j H', Inv (X.blk sC HC sc ce fp) ([] ++ pinsAt fp s7.heap) (wipe σ8 vs1) H' s' ∧ tn1 j s'.heap ∧ (∀ b ∈ fp1, H' b = none) ∧ W1 j m H' := fun {s' H'} I' nx => by
            obtain ⟨m', hm, w'⟩ := hNx1 H' nx
            have pin' : ∀ b ∈ fp1, ∀ o, s14.heap.get? b = some o → s'.heap.get? b = some o ∧ H' b = none := fun b hb o e =>
              let z := I'.pin (b, o) (List.mem_append_right _ (List.mem_append_right _ (mem_pinsAt hb e)))
              ⟨z.1, z.2.1⟩
            refine ⟨m', hm, j + 1, H', I'.unpinned.weak (by rw [← hw15, wipe_length]) (fun j v e => by rw [← hw15] at e; exact (wipe_some e).1), T1.keep _ _ _ st14 fun b hb o e => (pin' b hb o e).1, fun b hb => ?_, w'⟩
            obtain ⟨o, e, _⟩ := T1.obj _ _ st14 b hb
            exact (pin' b hb o e).2
          refine thnF (pe.run _ s15 σ15 H15 _ I15 q15) fun z s17 ⟨yv, H17, I17, r17, ck, cl, ey, hD17, hz17, nx⟩ => ?_
          subst ey
          obtain ⟨tk, rfl⟩ := r17
          exact addT_ok (X := X.blk sC HC sc ce fp) I17 hD17 hz17 fun s18 I18 => fin1 I18 nx
      exact start_in loop1 (T1.self X.A 0 _ _ _ st11 loop1)
  exact PpSet.codeAny_compStart_set loop (T.self X.A 0 _ _ _ stE loop)
end
end TS2

set_option Elab.async false
set_option maxRecDepth 100000
set_option maxHeartbeats 4000000
set_option linter.all false
/-! sorted of a set of texts -/
namespace TS2
open PySem PySem.Spec PyProof.Rows L2 PySem.Froz
section
variable {P : PySem.Program} {w : World} {A : Around} {E : Value → Shared → Prop} {s : Shared} {a : Addr} {l : List Str}
theorem strs_out : ∀ (vs : List Value), (∀ v ∈ vs, ∃ k u, v = Value.str k u) → StrsAre vs (vs.map fun v => wordAt (0, v))
  | [], _ => .nil
  | v :: vs, h => by
    obtain ⟨k, u, rfl⟩ := h v List.mem_cons_self
    exact .cons k u (strs_out vs fun x hx => h x (List.mem_cons_of_mem _ hx))
theorem tx_sorted {Q : Value → Shared → Prop} (R : TxSet P w s.heap a l) (hh : A.handled = none) (hn : l.length < scanBound)
    (hQ : ∀ s' p (out : Array Value) (c : Nat) (ys : List Str), (∀ b o, s.heap.get? b = some o → s'.heap.get? b = some o) → s'.gens = s.gens → s'.os = s.os → s.heap.objs.size ≤ p →
      s'.heap.get? p = some (seqObj "list" out c) → StrsAre out.toList ys → ys.Perm l → sortedS ys = true → Q (.ref p) s') :
    wpAny (model P w) A (call (.builtin "sorted") [.ref a]) Q E s := by
  obtain ⟨⟨es, ep, t⟩, ho, G⟩ := R
  have hsz : es.size = l.length := G.ok.sz
  have hb : es.size < scanBound := by rw [hsz]; exact hn
  refine Calls.call_function_entry kind_sorted plain_sorted entry_sorted (args_sorted1 _) ?_
  unfold Builtin.«sorted»
  refine wpAny_bind (m := checkCount "sorted" 1 1 _) (wpAny_pure ?_)
  refine wpAny_bind (collect_set (A := A.in1) hh (⟨_, ho, rfl, rfl⟩ : SetAt s.heap a es ep t) G.ok.fit hb G.ris G.led fun s1 vs k1 hz g1 o1 pm => ?_)
  have hvl : vs.length = l.length := by rw [pm.length_eq, List.length_map, Array.length_toList]; exact hsz
  have hS : StrsAre vs (vs.map fun v => wordAt (0, v)) := strs_out vs fun v hv => by
    obtain ⟨e, he, q⟩ := List.mem_map.mp (pm.mem_iff.mp hv)
    obtain ⟨k, u, h1⟩ := G.txt e he
    exact ⟨k, u, by rw [← q]; exact h1⟩
  have pk : (vs.map fun v => wordAt (0, v)).Perm l := by
    have q := pm.map fun v => wordAt (0, v)
    rw [List.map_map] at q
    exact q.trans G.keys
  have fits : vs.length ≤ sizeLine := by rw [hvl]; exact fits_of_scanBound hn
  refine wpAny_bind (wpAny_newList ?_ fits)
  have hoL : (s1.heap.push (seqObj "list" vs.toArray 0)).get? s1.heap.objs.size = some (seqObj "list" vs.toArray 0) := Heap.get?_push_size _ rfl
  refine wpAny_bind (wpAny_holding (wpAny_call_entry slot_list_sort ⟨_, hoL, rfl⟩ entry_list_sort
    (list_sort_treeKAny strKind_oneLt (s := { s1 with heap := s1.heap.push (seqObj "list" vs.toArray 0) }) hoL hS.keysOf (fun v₁ v₂ rest e => keyKind_strs (by rw [← e]; exact hS)) fits fun st' hp hs => ⟨_, rfl, ?_⟩) (args_list_sort _)))
  obtain ⟨ys, e1, e2, e3⟩ := sorted_out_str hS hp hs
  obtain ⟨c, hc⟩ := sortedHeap_at (vs := vs) (out := (arrOf st').map (·.2)) hoL
  refine wpAny_pure ⟨_, rfl, hQ _ s1.heap.objs.size _ c ys (fun b u e => ?_) g1 o1 hz hc e1 (e2.trans pk) e3⟩
  have q := k1 b u e
  have hlt := Heap.lt_size q
  show (sortedHeap (s1.heap.push (seqObj "list" vs.toArray 0)) s1.heap.objs.size vs _).get? b = some u
  rw [sortedHeap_old (Nat.ne_of_lt hlt) (by rw [size_push']; exact Nat.lt_succ_of_lt hlt)]
  exact Heap.get?_push_of_some _ q
end
section
variable {X : Cx}
def rSortedTx (P : PySem.Program) (w : World) : List V → Hp → VK → Prop := fun vs H Q => ∃ (a : Addr) (l : List Str), vs = [V.ref a] ∧ H a = some (TxO P w a l) ∧ l.length < scanBound ∧
  ∀ (ys : List Str) (p : Addr), ys.Perm l → sortedS ys = true → H p = none → Q (.ref p) (upd H p (.lst (ys.map V.str)))
theorem cr_sortedTx (hc : X.calm = true) : CallR X (.builtin "sorted") (rSortedTx X.prog X.w) := by
  intro pins s σ H vs us Q I r h
  obtain ⟨a, l, rfl, ha, hn, q⟩ := h
  rw [Vals.ref1 r]
  refine tx_sorted (txO_get I ha) (I.ok.hd hc) hn fun s' p out c ys k g o hp hg hS pm hs => ?_
  have hlen : (ys.map V.str).length ≤ sizeLine := by rw [List.length_map, pm.length_eq]; exact fits_of_scanBound hn
  have hf : H p = none := I.hok.fresh hp
  have J : Inv X pins σ (upd H p (.lst (ys.map V.str))) { s with heap := s'.heap, gens := s'.gens, drawn := s'.drawn, toks := s'.toks } :=
    I.call (ch := []) (Un.laid k hp hf) (I.hok.laid k hp ⟨hlen, out.toList, c, vals_of_strs hS, hg⟩) (by rw [g]; exact I.bare) (fun _ z => nomatch z)
  have e : s' = { s with heap := s'.heap, gens := s'.gens, drawn := s'.drawn, toks := s'.toks } := by
    cases s'
    cases s
    cases o
    rfl
  rw [e]
  exact ⟨.ref p, _, J, rfl, q ys p pm hs hf⟩
end
end TS2

set_option Elab.async false
set_option maxRecDepth 100000
set_option maxHeartbeats 4000000
set_option linter.all false
/-! {path: v for .. in ..}: keys that are tuples of ints and texts -/
namespace TS2
open PySem PySem.Spec PyProof.Rows L2
section
variable {X : Cx}
theorem dT_set {pins : List (Addr × Obj)} {σ : L2.St} {H : Hp} {s : Shared} {E : Value → Shared → Prop} {D b : Addr} {kvs : List (List Key × V)} {k : List Key} {v : V} {r : Value} {Q : Unit → Shared → Prop} (hu : X.A.units + 1 < cLine) (I : Inv X pins σ H s) (hD : H D = some (.dT kvs)) (hz : kvs.length < sizeLine)
    (hb : H b = some (.tup (k.map kV))) (rv : RelV v r) (h : ∀ s', Inv X pins σ (upd H D (.dT (putK kvs k v))) s' → Q () s') : wpAny (model X.prog X.w) X.A (dictSet D (.ref b) r) Q E s := by
  obtain ⟨z, hd, xs, rel, dd⟩ := dt_of I.hok hD
  have hz' : xs.length ≤ sizeLine := by rw [← Paired.length rel]; exact z
  have hl : (putK kvs k v).length ≤ sizeLine := by have := length_putK kvs k v; omega
  refine wpAny_dictSet_heap (hsz := hz') (show X.A.units < cLine by omega) (key_of I.hok hb) dd fun h' dd' hs => h _ ?_
  obtain ⟨q, es, ep, hq, h2, h3, h4, _, h5⟩ := dd'
  refine d_write I (by rw [hD]; exact True.intro) hs ⟨q, hq⟩ ⟨hl, hd, _, (rel.put k hb rv).keeps fun c ys ec => ?_, q, es, ep, hq, h2, h3, h4, h5⟩
  rw [upd_ne (ne_of ec hD (fun z => nomatch z))]
  exact ec
def tDcT (wi : TI) (g : TG) (tk tv : TE) (vs : List Nat) : TE := fun σ H Q => wi σ H fun J H1 => ∀ D, H1 D = none → ∃ W : Nat → Nat → Hp → Prop, (∃ m, W 0 m (upd H1 D (.dT []))) ∧ ∀ i m H, W i m H →
  (J.stop i H ∧ Q (.ref D) H) ∨ (J.go i H ∧ ∃ Nx : Hp → Prop, (∀ H', Nx H' → ∃ m', m' < m ∧ W (i + 1) m' H') ∧ ∀ x H', J.yld i H x H' → g x (wipe σ vs) H' fun σ2 H2 => wipe σ2 vs = wipe σ vs ∧
    tk σ2 H2 fun y H4 => tv σ2 H4 fun z H5 => ∃ kvs k b, y = .ref b ∧ H5 b = some (.tup (k.map kV)) ∧ H5 D = some (.dT kvs) ∧ kvs.length < sizeLine ∧ Nx (upd H5 D (.dT (putK kvs k z))))
theorem pe_dcT {kx vx tg iter : Expr} {sc : Scope} {own : List (Str × Nat)} {pos : Pos} {wi : TI} {g : TG} {tk tv : TE} (hu : X.A.units + 1 < cLine) (calm : X.calm = true) (nd : X.N.Nodup) (hi : PI X tg iter wi) (ok : BlkOk X.N X.env.scope sc own)
    (hg : ∀ (s : Shared) (H : Hp) (C : Addr) (cl : List (Str × Addr)) (fp : List Addr), PG (X.blk s H sc (compEnvC sc cl C X.env) fp) tg g)
    (hk : ∀ (s : Shared) (H : Hp) (C : Addr) (cl : List (Str × Addr)) (fp : List Addr), PE (X.blk s H sc (compEnvC sc cl C X.env) fp) kx tk)
    (he : ∀ (s : Shared) (H : Hp) (C : Addr) (cl : List (Str × Addr)) (fp : List Addr), PE (X.blk s H sc (compEnvC sc cl C X.env) fp) vx tv) (hs : ∀ x, foldedSetIterable iter X.env x = pure x := by intro _; rfl) :
    PE X (.DictComp kx vx [⟨tg, iter, [], 0⟩] sc pos) (tDcT wi g tk tv (own.map (·.2))) := by
  refine ⟨fun pins s σ H Q I h => ?_⟩
  rw [arm_eval_DictComp]
  have frees : ∀ y ∈ sc.names, y.2 = .free → ∃ c, X.env.cells.lookup y.1 = some c := fun y hy e =>
    (ok.free y hy e).elim (fun z => I.ok.has _ (.inl z)) fun z => I.ok.has _ (.inr z)
  refine wpAny_comprehension_free (use := none) rfl hs (closure_ok frees) ok.kind (fun y hy e => by rw [ok.uniq y hy, e]) (thn (hi.run pins s σ H _ I h) fun xv sA hx => thn hx fun itv sB hB => ?_)
  obtain ⟨it, fp, tn, J, HB, rfl, IB, T, stB, fB, q⟩ := hB
  refine wpAny_newObj_type (newEnv_comp ?_)
  obtain ⟨W, ⟨m0, w0⟩, turn⟩ := q sB.heap.objs.size (IB.hok.fresh (Nat.le_refl _))
  generalize eD : sB.heap.objs.size = D at w0 turn
  generalize eC : ({ sB with heap := sB.heap.push { cls := .type "dict", data := .dict #[] } } : Shared) = sC
  have hC : sC.heap = sB.heap.push { cls := .type "dict", data := .dict #[] } := by rw [← eC]
  generalize eH : upd HB D (.dT []) = HC at w0
  have IC : Inv X pins σ HC sC := by
    rw [← eC, ← eH]
    refine IB.laid (t' := sB.toks) (fun b o e => Heap.get?_push_of_some _ e) (Nat.le_of_eq eD) ?_
    rw [← eD]
    exact dt_empty sB.heap IB.big
  have young : ∀ b ∈ fp, b < sB.heap.objs.size := fun b hb => (T.obj _ _ stB b hb).elim fun o e => Heap.lt_size e.1
  have fC : ∀ b ∈ fp, FpOk X pins HC b ∧ b < sC.heap.objs.size := fun b hb => by
    have lt := young b hb
    have nb : HC b = none := by
      rw [← eH, upd_ne (by rw [← eD]; exact Nat.ne_of_lt lt)]
      exact (fB b hb).1
    exact ⟨⟨nb, (fB b hb).2⟩, by rw [hC, Heap.size_push]; exact Nat.lt_succ_of_lt lt⟩
  have stC : tn 0 sC.heap := T.keep _ _ _ stB fun b _ o e => by rw [hC]; exact Heap.get?_push_of_some _ e
  have IE := block_start IC ok nd fC
  have pg := hg sC HC sC.heap.objs.size (cellsFrom (sC.heap.objs.size + 1) sc.names (cloFrom X.env.cells sc.names [])) fp
  have pk := hk sC HC sC.heap.objs.size (cellsFrom (sC.heap.objs.size + 1) sc.names (cloFrom X.env.cells sc.names [])) fp
  have pe := he sC HC sC.heap.objs.size (cellsFrom (sC.heap.objs.size + 1) sc.names (cloFrom X.env.cells sc.names [])) fp
  show codeAny _ _ (.compStart (.DictComp kx vx [⟨tg, iter, [], 0⟩] sc pos) 0 (.ref it) (.ref D) (compEnvC sc (cellsFrom (sC.heap.objs.size + 1) sc.names (cloFrom X.env.cells sc.names [])) sC.heap.objs.size X.env)) (compPost (model X.prog X.w) X.A X.xe none (EP X pins σ Q) (.ref D) sC.heap.objs.size) { sC with heap := pushCells (sC.heap.push { cls := .type "dict", data := .dict #[] }) sc.names }
  generalize eN : compEnvC sc (cellsFrom (sC.heap.objs.size + 1) sc.names (cloFrom X.env.cells sc.names [])) sC.heap.objs.size X.env = ce at IE pg pk pe ⊢
  have eL : ce.locals = sC.heap.objs.size := by rw [← eN]; rfl
  generalize eE : ({ sC with heap := pushCells (sC.heap.push { cls := .type "dict", data := .dict #[] }) sc.names } : Shared) = sE at IE ⊢
  have stE : tn 0 sE.heap := T.keep _ _ _ stC fun b _ o e => by rw [← eE]; exact pushCells_keeps _ _ _ _ (Heap.get?_push_of_some _ e)
  have nfp : ∀ b ∈ fp, HC b = none := fun b hb => (fC b hb).1.1
  have stat : ∀ {σ' : L2.St} {H' : Hp} {s' : Shared}, Inv (X.blk sC HC sc ce fp) [] σ' H' s' → (∀ b ∈ fp, H' b = none) → ∀ b ∈ fp, FpOk (X.blk sC HC sc ce fp) [] H' b := fun {σ' H' s'} I' hn b hb =>
    ⟨hn b hb, (I'.ok.exf b hb).1, I'.ok.exfs b hb, .inl hb, fun x c e => (I'.ok.exf b hb).2 x c e, fun p hp => by simp at hp⟩
  have loop : codeAny (model X.prog X.w) X.A (.compLoop (.DictComp kx vx [⟨tg, iter, [], 0⟩] sc pos) 0 (.ref it) (.ref D) ce) (compPost (model X.prog X.w) X.A X.xe none (EP X pins σ Q) (.ref D) sC.heap.objs.size) sE := by
    refine compLoop_anyD (fun n s' => ∃ i H', Inv (X.blk sC HC sc ce fp) [] (wipe σ (own.map (·.2))) H' s' ∧ tn i s'.heap ∧ (∀ b ∈ fp, H' b = none) ∧ W i n H') ?_ m0 ⟨0, HC, IE, stE, nfp, w0⟩
    rintro n s5 ⟨i, H5, I5, st5, n5, w5⟩
    rcases turn i n H5 w5 with ⟨stop, qq⟩ | ⟨go, Nx, hNx, step⟩
    · refine thnF (T.done (X.blk sC HC sc ce fp) rfl rfl rfl calm i [] s5 _ H5 (fun _ _ => False) I5 (stat I5 n5) st5 stop) fun r s6 ⟨hr, I6⟩ => ?_
      subst hr
      have IG : Inv X pins σ H5 s6 := IC.call' (ch := fp) I6.os I6.base I6.hok I6.bare fun b hb => ⟨(fC b hb).1.2.2.2.1, (fC b hb).1.2.1, (fC b hb).1.2.2.2.2.1, (fC b hb).1.2.2.2.2.2⟩
      have nC : H5 sC.heap.objs.size = none := by
        have z : H5 ce.locals = none := I6.free
        rwa [eL] at z
      obtain ⟨m, hn, _⟩ := I6.loc
      have hn : s6.heap.Ns ce.locals m := hn
      rw [eL] at hn
      obtain ⟨f0, f1, f2, f3, f4, f5⟩ := IC.fpOk (Nat.le_refl _) nC
      exact ⟨m, hn, fun h'' sb => ⟨.ref D, H5, IG.turned (t' := s6.toks) (fun b o hb e => (sb.2 b hb).trans e) f0 f1 f3 f4 f5, rfl, qq⟩⟩
    · refine thnF (T.item (X.blk sC HC sc ce fp) rfl rfl rfl calm i [] s5 _ H5 (fun _ _ => False) I5 (stat I5 n5) st5 go) fun r s6 ⟨u, hr, h6⟩ => ?_
      subst hr
      refine thnF h6 fun _ s7 ⟨x, H7, I7, r7, y7, st7, n7⟩ => ?_
      have I7' := I7.pinned (stat I7 n7) (T.obj _ _ st7)
      refine thnF (pg.run _ s7 _ H7 x u _ I7' r7 (step x H7 y7)) fun _ s8 ⟨σ8, H8, I8, hw8, q8⟩ => ?_
      have fin : ∀ {s' : Shared} {H' : Hp}, Inv (X.blk sC HC sc ce fp) ([] ++ pinsAt fp s7.heap) σ8 H' s' → Nx H' → ∃ m, m < n ∧ ∃ i H', Inv (X.blk sC HC sc ce fp) [] (wipe σ (own.map (·.2))) H' s' ∧ tn i s'.heap ∧ (∀ b ∈ fp, H' b = none) ∧ W i m H' := fun {s' H'} I' nx => by
        obtain ⟨m', hm, w'⟩ := hNx H' nx
        have pin' : ∀ b ∈ fp, ∀ o, s7.heap.get? b = some o → s'.heap.get? b = some o ∧ H' b = none := fun b hb o e =>
          let z := I'.pin (b, o) (List.mem_append_right _ (List.mem_append_right _ (mem_pinsAt hb e)))
          ⟨z.1, z.2.1⟩
        refine ⟨m', hm, i + 1, H', (I'.unpinned (pins := [])).weak (by rw [← hw8, wipe_length]) (fun j v e => by rw [← hw8] at e; exact (wipe_some e).1), T.keep _ _ _ st7 fun b hb o e => (pin' b hb o e).1, fun b hb => ?_, w'⟩
        obtain ⟨o, e, _⟩ := T.obj _ _ st7 b hb
        exact (pin' b hb o e).2
      refine wpAny_pure ?_
      show wpAny _ _ _ _ _ _
      refine thnF (pk.run _ s8 σ8 H8 _ I8 q8) fun z s10 ⟨yk, H10, I10, r10, q10⟩ => ?_
      refine thnF (pe.run _ s10 σ8 H10 _ I10 q10) fun z2 s11 ⟨yv, H11, I11, r11, kvs, k, b, ek, hb, hD11, hz11, nx⟩ => ?_
      subst ek
      cases r10
      exact dT_set (X := X.blk sC HC sc ce fp) hu I11 hD11 hz11 hb r11 fun s12 I12 => fin I12 nx
  exact codeAny_compStart_dict loop (T.self X.A 0 _ _ _ stE loop)
end
end TS2

set_option Elab.async false
set_option maxRecDepth 100000
set_option maxHeartbeats 4000000
set_option linter.all false
/-! xs.extend(t), t a tuple -/
namespace TS2
open PySem PySem.Spec PyProof.Rows L2
section
variable {X : Cx}
def rExtT (K : PySem.W.Frag) : V → List V → Hp → VK → Prop := fun x vs H Q => ∃ l b xs zs, x = .ref l ∧ vs = [.ref b] ∧ H l = some (.lst xs) ∧ SqT K H b zs ∧ xs.length + zs.length ≤ sizeLine ∧ Q .non (upd H l (.lst (xs ++ zs)))
theorem mt_extendT : MtM X "list.extend" (rExtT X.K) := by
  intro pins s σ H x vs v us Q I rx rv h
  obtain ⟨l, b, xs, zs, rfl, rfl, hH, hB, hz, q⟩ := h
  cases rx
  obtain ⟨u, rfl, ru⟩ := rv.one
  cases ru
  obtain ⟨z, its, n, r, hl, e⟩ := I.lstM hH
  obtain ⟨its2, r2, ⟨o2, e2, hc2, n2, hd2⟩, hl2⟩ := I.tuple hB
  have lz : its2.length = zs.length := r2.length.symm
  have lx : its.length = xs.length := r.length.symm
  have hlong : ¬ (!its.toArray.isEmpty && Builtin.List.listTooLong (its.toArray.size + its2.toArray.size)) = true := by
    rw [notLongL (by rw [List.size_toArray, List.size_toArray]; omega), Bool.and_false]
    exact Bool.false_ne_true
  refine wpAny_call_entry F.slot_list_extend ⟨_, e, rfl⟩ F.entry_list_extend ?_ (F.args_list_extend_2 _ _)
  show wpAny _ _ (Builtin.List.listExtendWith (.ref l) (.ref b) .none) _ _ _
  unfold Builtin.List.listExtendWith
  refine wpAny_bind (wpAny_typeOf ⟨o2, e2, hc2⟩ ?_)
  have h1 : (Builtin.List.listSameRef (.ref l) (.ref b) || Value.type "tuple" == Value.type "list" || Value.type "tuple" == Value.type "tuple") = true := by simp
  simp only [h1, if_true]
  refine wpAny_bind ?_
  unfold Builtin.List.listItems
  refine wpAny_bind (wpAny_seqItems e2 hd2 (wpAny_pure ?_))
  refine wpAny_bind ?_
  refine wpAny_bind (wpAny_seqItems e rfl (wpAny_pure ?_))
  rw [if_neg hlong]
  show wpAny _ _ (updateSeq l (· ++ its2.toArray) >>= fun _ => ret Value.none) _ _ s
  have e3 := Heap.get?_update_self (Obj.mapSeq (· ++ its2.toArray)) e rfl
  refine wpAny_bind (wpAny_updateSeq e rfl ?_ (hz := by rw [List.size_toArray]; omega) (_hz' := by rw [Array.size_append, List.size_toArray, List.size_toArray]; omega))
  refine wpAny_pure ?_
  refine ⟨_, rfl, .non, _, I.lset (its' := its ++ its2) hH e (by simp) (r.append r2) (by rw [List.length_append]; omega), rfl, q⟩
end
end TS2

set_option Elab.async false
set_option maxRecDepth 100000
set_option maxHeartbeats 4000000
set_option linter.all false
/-! len(set(t)), t a tuple of texts of any number -/
namespace TS2
open PySem PySem.Spec PyProof.Rows L2
/-- the texts of ws, each once -/
def uniq (ws : List Str) : List Str := ws.foldl put []
theorem uniq_snoc (ws : List Str) (k : Str) : uniq (ws ++ [k]) = put (uniq ws) k := by unfold uniq; rw [List.foldl_append]; rfl
theorem mem_put {l : List Str} {k x : Str} : x ∈ put l k ↔ x ∈ l ∨ x = k := by
  unfold put
  split
  · rename_i h
    exact ⟨.inl, fun z => z.elim id fun e => e ▸ h⟩
  · rw [List.mem_cons]
    exact Or.comm
theorem put_nodup {l : List Str} {k : Str} (h : l.Nodup) : (put l k).Nodup := by
  unfold put
  split
  · exact h
  · rename_i n
    exact List.nodup_cons.mpr ⟨n, h⟩
theorem foldl_put_mem {x : Str} : ∀ (ws l : List Str), x ∈ ws.foldl put l ↔ x ∈ l ∨ x ∈ ws
  | [], l => by simp
  | k :: ws, l => by
    rw [List.foldl_cons, foldl_put_mem ws, mem_put, List.mem_cons, or_assoc]
theorem mem_uniq {ws : List Str} {x : Str} : x ∈ uniq ws ↔ x ∈ ws := by
  unfold uniq
  rw [foldl_put_mem]
  simp
theorem foldl_put_nodup : ∀ (ws l : List Str), l.Nodup → (ws.foldl put l).Nodup
  | [], _, h => h
  | k :: ws, l, h => foldl_put_nodup ws _ (put_nodup h)
theorem uniq_nodup (ws : List Str) : (uniq ws).Nodup := foldl_put_nodup ws [] List.nodup_nil
theorem foldl_put_len : ∀ (ws l : List Str), (ws.foldl put l).length ≤ l.length + ws.length
  | [], _ => Nat.le_refl _
  | k :: ws, l => by
    have h := foldl_put_len ws (put l k)
    have := put_len l k
    rw [List.foldl_cons, List.length_cons]
    omega
theorem uniq_le (ws : List Str) : (uniq ws).length ≤ ws.length := by have := foldl_put_len ws []; simpa [uniq] using this
theorem foldl_put_of : ∀ (ws l : List Str), ws.Nodup → (∀ x ∈ ws, x ∉ l) → (ws.foldl put l).length = l.length + ws.length
  | [], _, _, _ => rfl
  | k :: ws, l, h, d => by
    obtain ⟨h1, h2⟩ := List.nodup_cons.mp h
    have e : put l k = k :: l := by unfold put; rw [if_neg (d k List.mem_cons_self)]
    rw [List.foldl_cons, e, foldl_put_of ws _ h2 fun x hx z => ?_]
    · simp; omega
    · rcases List.mem_cons.mp z with q | q
      · exact h1 (q ▸ hx)
      · exact d x (List.mem_cons_of_mem _ hx) q
theorem uniq_all {ws : List Str} (h : ws.Nodup) : (uniq ws).length = ws.length := by
  have := foldl_put_of ws [] h (by simp)
  simpa [uniq] using this
theorem foldl_put_nd : ∀ (ws l : List Str), (ws.foldl put l).length = l.length + ws.length → ws.Nodup ∧ ∀ x ∈ ws, x ∉ l
  | [], _, _ => ⟨List.nodup_nil, fun x h => by simp at h⟩
  | k :: ws, l, h => by
    have h1 := foldl_put_len ws (put l k)
    have h2 := put_len l k
    rw [List.foldl_cons, List.length_cons] at h
    have hk : k ∉ l := fun z => by
      have e : put l k = l := by unfold put; rw [if_pos z]
      rw [e] at h h1
      omega
    have e : put l k = k :: l := by unfold put; rw [if_neg hk]
    rw [e] at h
    obtain ⟨n1, n2⟩ := foldl_put_nd ws (k :: l) (by rw [h, List.length_cons]; omega)
    refine ⟨List.nodup_cons.mpr ⟨fun z => n2 k z List.mem_cons_self, n1⟩, fun x hx z => ?_⟩
    rcases List.mem_cons.mp hx with q | q
    · exact hk (q ▸ z)
    · exact n2 x q (List.mem_cons_of_mem _ z)
/-- as many as there are, exactly if none stands twice -/
theorem uniq_len {ws : List Str} : (uniq ws).length = ws.length ↔ ws.Nodup :=
  ⟨fun e => (foldl_put_nd ws [] (by unfold uniq at e; rw [e]; simp)).1, uniq_all⟩
section
variable {P : PySem.Program} {w : World} {A : Around} {R : Result → Shared → Prop} {I : Addr} {fp wr : List Addr} {G : Array GenState → Array GenState → Prop} {n : Nat} {Pv : Nat → Value → Prop} {St : Nat → Shared → Prop}
abbrev HoldsU (P : PySem.Program) (w : World) (h : Heap) (S : Addr) (ws : List Str) : Prop := h.SetOf (PySem.strKind P w) S (fun k => decide (k ∈ uniq ws)) (uniq ws).length
theorem holdsU_more {h : Heap} {S : Addr} {ws : List Str} {k : Str} (e : h.SetOf (PySem.strKind P w) S (fun j => decide (j ∈ uniq ws) || decide (j = k)) (if decide (k ∈ uniq ws) = true then (uniq ws).length else (uniq ws).length + 1)) :
    HoldsU P w h S (ws ++ [k]) := by
  refine SetOf_congr e (fun j => ?_) ?_
  · rw [uniq_snoc]
    by_cases a : j ∈ uniq ws <;> by_cases b : j = k <;> simp [mem_put, a, b]
  · rw [uniq_snoc]
    by_cases a : k ∈ uniq ws <;> simp [put, a]
theorem loopU (W : WalksS P w A.in1 I fp wr G n Pv St) (S : Addr) (hSf : S ∉ fp) (xs : List Str) (hsz : xs.length = n) (hn : n + 1 < scanBound) (hval : ∀ i v, Pv i v → ∃ x t, xs[i]? = some x ∧ v = .str x t) :
    ∀ (k i : Nat) (s : Shared), n - i = k → i ≤ n → St i s → HoldsU P w s.heap S (xs.take i) →
      (∀ s', Moved (S :: wr) G s s' → HoldsU P w s'.heap S xs → R (.ok (.ret .none)) s') → codeAny (model P w) A (.builtin "set.update.loop" ⟨[.ref S, .ref I], []⟩) R s := by
  have hSw : S ∉ wr := fun h => hSf (W.sub _ h)
  have hsub : ∀ b ∈ wr, b ∈ S :: wr := fun b hb => List.mem_cons_of_mem _ hb
  intro k
  induction k with
  | zero =>
    intro i s hk hi hst hS hR
    have hin : i = n := by omega
    subst hin
    rw [← hsz, List.take_length] at hS
    refine codeAny_builtin PyProof.Rows.F.entry_set_update_loop ?_
    rw [Around.under_plainId PyProof.Rows.F.plain_set_update_loop _]
    show wpAny _ A.in1 (pyNext (.ref I) >>= _) _ _ s
    refine wpAny_bind (W.done s _ _ hst fun s' hm => ?_)
    show wpAny _ A.in1 (ret Value.none) _ _ s'
    obtain ⟨o, es, ep, t, ho, more⟩ := hS
    exact wpAny_pure (hR s' (hm.mono hsub) ⟨o, es, ep, t, hm.heap S _ hSw ho, more⟩)
  | succ k ih =>
    intro i s hk hi hst hS hR
    have hlt : i < n := by omega
    refine codeAny_builtin PyProof.Rows.F.entry_set_update_loop ?_
    rw [Around.under_plainId PyProof.Rows.F.plain_set_update_loop _]
    show wpAny _ A.in1 (pyNext (.ref I) >>= _) _ _ s
    refine wpAny_bind (W.item i s _ _ hlt hst fun v s' hP hst' hm => ?_)
    obtain ⟨x, t, hx, rfl⟩ := hval i v hP
    have hS' : HoldsU P w s'.heap S (xs.take i) := by
      obtain ⟨o, es, ep, tb, ho, more⟩ := hS
      exact ⟨o, es, ep, tb, hm.heap S _ hSw ho, more⟩
    show wpAny _ A.in1 (holding [Value.str x t] (setAdd S (.str x t)) >>= _) _ _ s'
    refine wpAny_bind (wpAny_holding ?_)
    unfold setAdd
    refine wpAny_holding ?_
    refine wpAny_bind ((PySem.strKind P w).pyHash (k := x) (strKind_is _ _ _ _) ?_)
    have room : (uniq (xs.take i)).length + 1 < scanBound := by
      have h1 := uniq_le (xs.take i)
      rw [List.length_take] at h1
      omega
    refine wpAny_setAddHashed_of (knd := PySem.strKind P w) (s := { s' with toks := s'.toks + 1 }) (strKind_is _ _ _ _) rfl hS' room fun h' hsb hS2 => ?_
    have hSi : HoldsU P w h' S (xs.take (i + 1)) := by
      rw [List.take_succ, hx]
      exact holdsU_more hS2
    refine wpAny_pure ⟨plainId_quiet PyProof.Rows.F.plain_set_update_loop _, ih (i + 1) _ (by omega) hlt (W.frame _ s' _ _ hst' (Nat.le_succ _) fun b hb o e => ?_) hSi fun s2 hm2 hS3 => ?_⟩
    · exact (hsb.2 b fun z => hSf (z ▸ hb)).trans e
    · refine hR s2 (Moved.trans W.gtrans ((hm.mono hsub).then_heap (Nat.le_succ _) fun b o hb e => ?_) hm2) hS3
      exact (hsb.2 b fun z => hb (z ▸ List.mem_cons_self)).trans e
end
section
variable {P : PySem.Program} {w : World} {A : Around} {E : Value → Shared → Prop} {s : Shared}
set_option maxHeartbeats 6400000 in
theorem set_of_tuple {l : Addr} {its : Array Value} {xs : List Str} {Q : Value → Shared → Prop} (hh : A.handled = none) (hl : s.heap.IsTuple l its) (hi : StrsAre its.toList xs) (hb : xs.length + 1 < scanBound)
    (h : ∀ (h' : Heap) (tk : Nat), HoldsU P w h' s.heap.objs.size xs → (∀ b o, b < s.heap.objs.size → s.heap.get? b = some o → h'.get? b = some o) → Q (.ref s.heap.objs.size) { s with heap := h', toks := tk }) :
    wpAny (model P w) A (call (.type "set") [.ref l]) Q E s := by
  obtain ⟨c, tl, hmro⟩ := PySem.F.called_set.mro
  have hmade := PySem.F.called_set.made
  have hsub := PySem.F.called_set.sub
  refine wpAny_call (codeAny_of_tree ?_)
  show wpAny _ _ (callAny (.type "set") _) _ _ _
  refine wpAny_pure ⟨Code.quiet_builtin _ (by decide +kernel), codeAny_builtin PySem.F.entry_type_call ?_⟩
  rw [Around.under_plain (weight_type_call_type "set" [.ref l] []) rfl]
  have h1 := PySem.F.called_set.notType
  have h2 := PySem.F.called_set.canCreate
  have hct := PySem.F.typeCall_set_1 (.ref l)
  repeat (any_goals (first | assumption | wp_step))
  refine codeAny_mono (code_set_new_1 (.ref l) (E := E) (Q₁ := fun obj s1 => ∃ led : Bool, obj = .ref s.heap.objs.size ∧ s1 = { s with heap := s.heap.push { cls := .type "set", dict := none, data := .set #[] 0 (.fresh 0 0 led) } }) fun led => ⟨led, rfl, rfl⟩) fun r s1 hr => ?_
  cases r with
  | error e => exact hr
  | ok fl =>
    cases fl with
    | next => exact hr.elim
    | brk => exact hr.elim
    | cont => exact hr.elim
    | ret obj =>
      obtain ⟨led, rfl, rfl⟩ := hr
      have hS : (s.heap.push { cls := .type "set", dict := none, data := .set #[] 0 (.fresh 0 0 led) }).get? s.heap.objs.size = some { cls := .type "set", dict := none, data := .set #[] 0 (.fresh 0 0 led) } := Heap.get?_push_size _ rfl
      have hT : Shared.TypeIs { s with heap := s.heap.push { cls := .type "set", dict := none, data := .set #[] 0 (.fresh 0 0 led) } } (.ref s.heap.objs.size) "set" := ⟨_, hS, rfl⟩
      have hli := PySem.F.called_set.init.lookup
      have hbi := PySem.F.called_set.init.bind (.ref s.heap.objs.size)
      repeat (any_goals (first | assumption | wp_step))
      refine codeAny_mono (codeAny_call_builtin (R := wants (fun r s2 => r = .none ∧ ∃ h' tk, s2 = { s with heap := h', toks := tk } ∧ HoldsU P w h' s.heap.objs.size xs ∧
          (∀ b o, b < s.heap.objs.size → s.heap.get? b = some o → h'.get? b = some o)) E) PySem.F.called_set.init.plain PySem.F.entry_set_init (check_set_init_1 hT ?_)) fun r2 s2 hr2 => ?_
      · obtain ⟨⟨ocls, odict, odata, oslots⟩, hol, hcl, nl, hdl⟩ := hl
        simp only at hcl hdl
        subst hcl; subst hdl
        have hol' : (s.heap.push { cls := .type "set", dict := none, data := .set #[] 0 (.fresh 0 0 led) }).get? l = some { cls := .type "tuple", dict := odict, data := .seq its nl, slots := oslots } := Heap.get?_push_of_some _ hol
        have hsls := PySem.F.sub_tuple_set
        have hslf := PySem.F.sub_tuple_frozenset
        have hne : (Value.type "tuple" == Value.type "dict") = false := by decide
        have hl1 : ({ s with heap := s.heap.push { cls := .type "set", dict := none, data := .set #[] 0 (.fresh 0 0 led) } } : Shared).heap.IsTuple l its := ⟨_, hol', rfl, nl, rfl⟩
        unfold Builtin.«set.__init__» noKeywords Builtin.Frozenset.updateFrom
        generalize hPI : pyIter = PI
        wp_walk
        subst hPI
        refine wpAny_pyIter_tuple hl1 ?_
        refine wpAny_bind (wpAny_runValue ?_)
        have hlS : l < s.heap.objs.size := Heap.lt_size hol
        have hh3 : A.in1.in1.in1.handled = none := by simp [hh]
        have hz : (s.heap.push { cls := .type "set", dict := none, data := .set #[] 0 (.fresh 0 0 led) }).objs.size = s.heap.objs.size + 1 := Heap.size_push ..
        have hneI : l ≠ (s.heap.push { cls := .type "set", dict := none, data := .set #[] 0 (.fresh 0 0 led) }).objs.size := by rw [hz]; exact Nat.ne_of_lt (Nat.lt_succ_of_lt hlS)
        have hSf : s.heap.objs.size ∉ [(s.heap.push { cls := .type "set", dict := none, data := .set #[] 0 (.fresh 0 0 led) }).objs.size, l] := by
          rw [hz]
          simp only [List.mem_cons, List.not_mem_nil, or_false, not_or]
          exact ⟨Nat.ne_of_lt (Nat.lt_succ_self _), Nat.ne_of_gt hlS⟩
        have hsz : xs.length = its.size := by rw [← StrsAre.len_eq hi, Array.length_toList]
        have hval : ∀ (i : Nat) (v : Value), its[i]? = some v → ∃ x t, xs[i]? = some x ∧ v = .str x t := fun i v hv => by
          have hv' : its.toList[i]? = some v := by rw [Array.getElem?_toList]; exact hv
          have lt : i < xs.length := by rw [hsz]; exact (Array.getElem?_eq_some_iff.mp hv).1
          obtain ⟨t, e⟩ := SS.strs_at hi i v hv'
          refine ⟨xs[i], t, by simp [lt], ?_⟩
          rw [e]
          simp [lt]
        refine loopU ((Walks.tuple hh3 _ l hneI its).toS) s.heap.objs.size hSf xs hsz (by rw [← hsz]; exact hb) hval (its.size - 0) 0 _ (by omega) (Nat.zero_le _)
          ⟨⟨_, Heap.get?_push_size _ rfl, rfl, rfl⟩, (hl1.push _)⟩ ?hS0 ?hR
        case hS0 =>
          have hget : ((s.heap.push { cls := .type "set", dict := none, data := .set #[] 0 (.fresh 0 0 led) }).push { cls := .type "tuple_iterator", data := .fields #[.ref l, .int 0 0] }).get? s.heap.objs.size = some { cls := .type "set", dict := none, data := .set #[] 0 (.fresh 0 0 led) } := Heap.get?_push_of_some _ hS
          exact SetOf_congr ((setObjOf_fresh (knd := PySem.strKind P w) led).setOf hget (by unfold scanBound; omega)) (fun k => by simp [uniq]) rfl
        case hR =>
          intro s' hm hS'
          obtain ⟨h', g', d', tk', os'⟩ := s'
          have eg : g' = s.gens := hm.gens
          have ed : d' = s.drawn := hm.drawn
          have eo : os' = s.os := hm.os
          subst eg; subst ed; subst eo
          show wpAny _ _ _ _ _ _
          refine wpAny_pure ?_
          show wpAny _ _ (ret Value.none) _ _ _
          refine wpAny_pure ⟨rfl, h', tk', rfl, hS', fun b o hb e => ?_⟩
          exact hm.heap b o (by simp only [List.mem_cons, List.not_mem_nil, or_false, not_or]; exact ⟨Nat.ne_of_lt hb, by rw [hz]; exact Nat.ne_of_lt (Nat.lt_succ_of_lt hb)⟩) (Heap.get?_push_of_some _ (Heap.get?_push_of_some _ e))
      · cases r2 with
        | error e => exact hr2
        | ok fl2 =>
          cases fl2 with
          | next => exact hr2.elim
          | brk => exact hr2.elim
          | cont => exact hr2.elim
          | ret r =>
            obtain ⟨rfl, h', tk, rfl, hS', hk'⟩ := hr2
            repeat (any_goals (first | assumption | wp_step))
            exact h _ _ hS' hk'
end
section
variable {X : Cx}
def tLenU (K : PySem.W.Frag) (ta : TE) : TE := fun σ H Q => ta σ H fun x H1 => ∃ l, ∃ xs : List Str, x = .ref l ∧ SqT K H1 l (xs.map V.str) ∧ xs.length + 1 < scanBound ∧ Q (.int (uniq xs).length) H1
theorem pe_lenU {a : Expr} {ta : TE} {p p2 q pos : Pos} (hc : X.calm = true) (hg : Gl X "len") (hm : X.mg "len" = none) (hg2 : Gl X "set") (hm2 : X.mg "set" = none) (ha : PE X a ta)
    (na : starEach [a] X.env = (false, eval a X.env) :: starEach [] X.env := by rfl) : PE X (.Call (.Name "len" p) [.Call (.Name "set" p2) [a] [] q] [] pos) (tLenU X.K ta) := by
  refine ⟨fun pins s σ H Q I h => ?_⟩
  refine Call_ (ld_blt I hg hm boot_len ?_)
  refine callWith_builtin1 (args_cons ?_ rfl) rfl rfl
  refine Call_ (ld_blt I hg2 hm2 boot_set ?_)
  refine callWith_type1 (args_cons (thn (ha.run pins s σ H _ I h) fun v s1 ⟨x, H1, I1, r1, q1⟩ => args_nil ?_) na) na rfl
  obtain ⟨l, xs, rfl, hq, h1, q1⟩ := q1
  cases r1
  obtain ⟨its, r, pl, hz⟩ := I1.tuple hq
  refine set_of_tuple (I1.ok.hd hc) pl (by simpa using strsAre_of r) h1 fun h' tk hS hk => ?_
  obtain ⟨o, es, ep, t, ho, hex, hd, _, _, _, hf, hn⟩ := hS
  have I2 : Inv X pins σ H1 { s1 with heap := h', toks := tk } := I1.kept fun b o e => hk b o (Heap.lt_size e) e
  have := uniq_le xs
  have sb : scanBound = 4096 := rfl
  refine args_nil ?_
  refine call_len_set ho hex hd hf (by rw [hn]; omega) ⟨.int (uniq xs).length, H1, I2.tok _, ⟨_, by rw [hn]⟩, q1⟩
end
end TS2

set_option Elab.async false
set_option maxRecDepth 100000
set_option maxHeartbeats 4000000
set_option linter.all false
/-! own errors over LookupError: made, stored into, read, asked for their class -/
namespace L2
open PySem PySem.Spec PyProof.Rows
abbrev leTail : List Value :=
  [.type "LookupError", .type "Exception", .type "BaseException", .type "object"]
/-- what the written part says of an own error class -/
structure ErrC (K : PySem.W.Frag) (C : Addr) : Prop where
  ini : PySem.W.excInitIn K C leTail "LookupError.__new__" = true
  ovr : PySem.W.excOver K C leTail = true
  sa : PySem.W.findIn K (.ref C) "__setattr__" = some (some (.builtin "object.__setattr__"))
  ga : PySem.W.findIn K (.ref C) "__getattribute__"
    = some (some (.builtin "BaseException.__getattribute__"))
  gg : PySem.W.findIn K (.ref C) "__getattr__" = some none
  exC : PySem.W.subIn K (.ref C) (.type "BaseException") = some true
  tyC : PySem.W.typeIn K (.ref C) = some (.type "type")
  kC : PySem.W.keepIn K (.ref C) = true
  hdC : PySem.W.hasDictIn K C = true
  ca : PySem.W.findIn K (.ref C) "__class__" = some (some (.builtin "object.__class__"))
  cg : PySem.W.specialIn K (.builtin "object.__class__") "__get__"
    = some (some (.builtin "getset_descriptor.__get__"))
  ct : PySem.W.takesIn K (.builtin "object.__class__") = some true
  cm : PySem.W.mroIn K C (.type "object") = some true
theorem taker_none {K : PySem.W.Frag} {C : Addr} {f : Str}
    (h : PySem.W.findIn K (.ref C) f = some none) : PySem.W.takerIn K C f = some none := NoAttr.taker h
section
variable {prog : Program} {w : World} {A : Around} {R : Result → Shared → Prop} {hp : Heap} {g : Array GenState}
  {d : Drawn} {t : Nat} {os : OsState} {K : PySem.W.Frag} {C x t0 : Addr} {name : Str} {tk : Tok} {v : Value}
/-- object.__setattr__ on a fresh error: its dict is made -/
theorem sa_new (T : ErrC K C) (X : K.In hp)
    (hx : hp.get? x = some { cls := .ref C, data := .fields #[.ref t0, .none, .none, .none, .bool false, .none] })
    (hno : PySem.W.findIn K (.ref C) name = some none)
    (hq : ∀ h' tk' dx, (∀ b o, b ≠ x → hp.get? b = some o → h'.get? b = some o) → hp.objs.size ≤ dx → dx ≠ x →
      h'.get? x = some { cls := .ref C, dict := some dx, data := .fields #[.ref t0, .none, .none, .none, .bool false, .none] } →
      h'.Ns1 dx (fun y => if y = name then some v else none) → R (.ok (.ret .none)) ⟨h', g, d, tk', os⟩) :
    codeAny (model prog w) A (.call (.builtin "object.__setattr__") ⟨[.ref x, .str name tk, v], []⟩) R
      ⟨hp, g, d, t, os⟩ := by
  have J : PySem.W.InstAt hp x { cls := .ref C, data := .fields #[.ref t0, .none, .none, .none, .bool false, .none] } C none :=
    ⟨hx, rfl, rfl, trivial⟩
  have hne : x ≠ hp.objs.size := Nat.ne_of_lt (Heap.lt_size hx)
  obtain ⟨cd, hcd, hdd⟩ := PySem.W.any_some T.hdC
  refine PySem.W.osa_openX PySem.F.store_LookupError X J T.ovr (taker_none hno) fun b => ?_
  have Lc : PySem.W.Looks (model prog w) hp (classData C) cd := PySem.W.looks_clsIn X hcd
  show wpAny _ _ (Builtin.ObjectAttr.storeInOwnDict (.ref x) (.ref C) (.str name tk) name v b) _ _ _
  unfold Builtin.ObjectAttr.storeInOwnDict Builtin.ObjectAttr.ownDictForStores
  repeat (first | with_reducible refine PySem.HandSPX.store_in_new ?_ ?_ | with_reducible refine wpAny_loadPart_at hx ?_ | with_reducible refine Lc.at ?_ | wp_step)
  · exact ⟨_, #[], _, (Heap.get?_update_ne _ _ _ _ hne.symm).trans (Heap.get?_push_at rfl rfl), rfl,
      fun e he => absurd he (by simp), fun _ => rfl⟩
  · intro h1 t1 ns same
    have hx1 := Heap.get?_push_of_some ({ cls := .type "dict", data := .dict #[] } : Obj) hx
    refine hq h1 t1 hp.objs.size (fun c o hc ho => ?_) (Nat.le_refl _) hne.symm ?_ ns
    · rw [same.2 c (Nat.ne_of_lt (Heap.lt_size ho)), Heap.get?_update_ne _ _ _ _ hc]
      exact Heap.get?_push_of_some _ ho
    · rw [same.2 x hne]
      exact Heap.get?_update_self _ hx1 rfl
/-- object.__setattr__ on an error that has its dict -/
theorem sa_old (T : ErrC K C) (X : K.In hp) {dx : Addr} {m0 : Str → Option Value} {nl : List Str}
    (hx : hp.get? x = some { cls := .ref C, dict := some dx, data := .fields #[.ref t0, .none, .none, .none, .bool false, .none] })
    (hns : hp.Ns1 dx m0) (hw : Within m0 nl) (hz : nl.length ≤ 1000)
    (hno : PySem.W.findIn K (.ref C) name = some none)
    (hq : ∀ h' tk', (∀ b o, b ≠ dx → hp.get? b = some o → h'.get? b = some o) →
      h'.Ns1 dx (fun y => if y = name then some v else m0 y) → R (.ok (.ret .none)) ⟨h', g, d, tk', os⟩) :
    codeAny (model prog w) A (.call (.builtin "object.__setattr__") ⟨[.ref x, .str name tk, v], []⟩) R
      ⟨hp, g, d, t, os⟩ := by
  obtain ⟨oD, _, _, hoD, _, _⟩ := hns.count hw
  have J : PySem.W.InstAt hp x { cls := .ref C, dict := some dx, data := .fields #[.ref t0, .none, .none, .none, .bool false, .none] } C (some oD) :=
    ⟨hx, rfl, rfl, hoD⟩
  obtain ⟨cd, hcd, hdd⟩ := PySem.W.any_some T.hdC
  refine PySem.W.osa_openX PySem.F.store_LookupError X J T.ovr (taker_none hno) fun b => ?_
  have Lc : PySem.W.Looks (model prog w) hp (classData C) cd := PySem.W.looks_clsIn X hcd
  show wpAny _ _ (Builtin.ObjectAttr.storeInOwnDict (.ref x) (.ref C) (.str name tk) name v b) _ _ _
  unfold Builtin.ObjectAttr.storeInOwnDict Builtin.ObjectAttr.ownDictForStores
  repeat (first | with_reducible refine PySem.OEX.store_in_old hns hw hz ?_ | with_reducible refine wpAny_loadPart_at hx ?_ | with_reducible refine Lc.at ?_ | wp_step)
  intro h1 t1 ns same
  exact hq h1 t1 (fun c o hc ho => (same.2 c hc).trans ho) ns
end
end L2

set_option Elab.async false
set_option maxRecDepth 100000
set_option maxHeartbeats 4000000
set_option linter.all false
namespace L2
open PySem PySem.Spec PySem.HandSPX
section
variable {M : Model} {A : Around} {E : Value → Shared → Prop} {h : Heap} {g : Array GenState} {d : Drawn} {t : Nat} {os : OsState}
variable {nm q : Str} {C N : Addr} {bs bm bmB : List Value} {hdct : Bool} {sn : List Str} {sub : List Value} {ab : Bool} {col : Option Bool} {dd : Option Addr} {k0 k1 k2 k3 k5 : Option Value} {B newId initId : String}
theorem check_new_kw (F : ExcBaseFacts B newId initId bmB) (hT : ∀ X : String, bm.contains (.type X) = bmB.contains (.type X)) {rest : List Value} {kw : List (Str × Value)} {Q : Unit → Shared → Prop}
    (hC : h.get? C = some (excClassObj nm q C N bs bm hdct sn sub ab col dd k0 k1 k2 k3 k5 newId)) (hq : Q () ⟨h, g, d, t, os⟩) :
    wpAny M A (checkBuiltinCall newId ⟨.ref C :: rest, kw⟩) Q E ⟨h, g, d, t, os⟩ := by
  have hB : (Value.ref C :: bm).contains (.type B) = true := by rw [List.contains_cons, hT, F.hasB, Bool.or_true]
  have hS := F.noStar
  simp only [checkBuiltinCall, F.newKind, F.newSplit, F.newRow]
  repeat (first | refine wpAny_loadPart_at hC ?_ | (refine wpAny_isSubtype_exc hC ?_; rw [hB]) | refine wpAny_staticBase_exc hC ?_ | refine wpAny_madeBy_exc hC ?_ | simp only [bne_self_eq_false, Bool.false_eq_true, if_false] | wp_step)
  exact hq
end
section
variable {prog : Program} {w : World} {A : Around} {E : Value → Shared → Prop} {R : Result → Shared → Prop} {h : Heap} {g : Array GenState} {d : Drawn} {t : Nat} {os : OsState}
variable {nm q : Str} {C N : Addr} {bs bm bmB : List Value} {hdct : Bool} {sn : List Str} {sub : List Value} {ab : Bool} {col : Option Bool} {dd : Option Addr} {k0 k1 k2 k3 k5 : Option Value} {B newId initId : String}
theorem new_kw (F : ExcBaseFacts B newId initId bmB) (hT : ∀ X : String, bm.contains (.type X) = bmB.contains (.type X)) {rest : List Value} {kw : List (Str × Value)}
    (hC : h.get? C = some (excClassObj nm q C N bs bm hdct sn sub ab col dd k0 k1 k2 k3 k5 newId)) (hr : rest.length ≤ sizeLine)
    (hq : R (.ok (.ret (.ref (h.objs.size + 1)))) ⟨(h.push (PySem.W.kdv_tup rest)).push (excO C h.objs.size), g, d, t, os⟩) :
    codeAny (model prog w) A (.builtin newId ⟨.ref C :: rest, kw⟩) R ⟨h, g, d, t, os⟩ := by
  have hE := F.ends
  have hB : (Value.ref C :: bm).contains (.type B) = true := by rw [List.contains_cons, hT, F.hasB, Bool.or_true]
  have hA : (Value.ref C :: bm).contains (.type "AttributeError") = false := by rw [List.contains_cons, hT, F.noAttr]; rfl
  have hN : (Value.ref C :: bm).contains (.type "NameError") = false := by rw [List.contains_cons, hT, F.noName]; rfl
  refine codeAny_builtinAt F.entry ?_
  unfold Builtin.«BaseException.__new__»
  refine wpAt_bind ?_
  show wpAt _ _ _ (stack >>= _) _ _ _
  refine wpAt_bind (wpAt_stack fun p below => wpAt_of_wpAny ?_)
  wp_walk
  refine wpAt_of_wpAny ?_
  rw [F.owner]
  repeat (first | with_reducible refine wpAny_madeHere_exc F.canon hC ?_ | with_reducible refine wpAny_loadPart_at hC ?_ | (with_reducible refine wpAny_isSubtype_exc hC ?_; first | rw [hB] | rw [hA] | rw [hN]) | wp_step)
  show R _ _
  rw [Heap.size_push]
  exact hq
theorem type_call_kw (F : ExcBaseFacts B newId initId bmB) (hT : ∀ X : String, bm.contains (.type X) = bmB.contains (.type X)) {rest : List Value} {kw : List (Str × Value)} {fI : Addr} {Q : Fin → Shared → Prop}
    (hC : h.get? C = some (excClassObj nm q C N bs bm hdct sn sub ab col dd k0 k1 k2 k3 k5 newId))
    (hi : W.Looks (model prog w) h (typeLookup (.ref C) "__init__") (some (.ref fI))) (hb : ∀ self, W.Looks (model prog w) h (bindSpecial (.ref fI) self) (.ref fI, [self])) (hr : rest.length ≤ sizeLine)
    (hq : codeAny (model prog w) A (.call (.ref fI) ⟨.ref (h.objs.size + 1) :: rest, kw⟩)
      (fun r s' => match r with | .ok (.ret v) => v = .none ∧ Q (.done (.ret (.ref (h.objs.size + 1)))) s' | .ok _ => False | .error e => E e s')
      ⟨(h.push (PySem.W.kdv_tup rest)).push (excO C h.objs.size), g, d, t, os⟩) :
    wpAny (model prog w) A (Builtin.«type.__call__» ⟨.ref C :: rest, kw⟩) Q E ⟨h, g, d, t, os⟩ := by
  repeat (first | with_reducible refine wpAny_loadPart_at hC ?_ | with_reducible refine wpAny_madeBy_exc hC ?_ | wp_step)
  refine codeAny_call_builtin_code (Code.quiet_builtin _ F.quiet) (check_new_kw F hT hC ?_)
  refine new_kw F hT hC hr ?_
  show wpAny _ _ _ _ _ _
  have kp : ∀ b o, h.get? b = some o → ((h.push (PySem.W.kdv_tup rest)).push (excO C h.objs.size)).get? b = some o := fun b o e => Heap.get?_push_of_some _ (Heap.get?_push_of_some _ e)
  have hC1 := kp _ _ hC
  have hx : ((h.push (PySem.W.kdv_tup rest)).push (excO C h.objs.size)).get? (h.objs.size + 1) = some (excO C h.objs.size) := by heap_get
  have hcc : (Value.ref C :: bm).contains (.ref C) = true := by simp
  have i1 := hi.keeps kp
  have b1 := (hb (.ref (h.objs.size + 1))).keeps kp
  unfold isInstance
  repeat (first | with_reducible refine wpAny_loadPart_at hx ?_ | (with_reducible refine wpAny_isSubtype_exc hC1 ?_; rw [hcc]) | wp_step)
  show wpAny _ _ (typeLookup (.ref C) _) _ _ _
  refine i1.at ?_
  refine wpAny_holding (wpAny_bind (b1.at ?_))
  refine wpAny_bind (wpAny_call (codeAny_mono hq fun r s' z => ?_))
  rcases r with e | (v | _ | _ | _) <;> first | exact z | exact z.elim | skip
  obtain ⟨rfl, z⟩ := z
  first
    | exact wpAny_pure (wpAny_pure z)
    | (wp_walk; exact z)
theorem call_kw (F : ExcBaseFacts B newId initId bmB) (hT : ∀ X : String, bm.contains (.type X) = bmB.contains (.type X)) {rest : List Value} {kw : List (Str × Value)} {fI : Addr}
    (hC : h.get? C = some (excClassObj nm q C N bs bm hdct sn sub ab col dd k0 k1 k2 k3 k5 newId))
    (hi : W.Looks (model prog w) h (typeLookup (.ref C) "__init__") (some (.ref fI))) (hb : ∀ self, W.Looks (model prog w) h (bindSpecial (.ref fI) self) (.ref fI, [self])) (hr : rest.length ≤ sizeLine)
    (hq : codeAny (model prog w) (A.under (.builtin "type.__call__" ⟨.ref C :: rest, kw⟩)) (.call (.ref fI) ⟨.ref (h.objs.size + 1) :: rest, kw⟩) (W.InitBack (h.objs.size + 1) R)
      ⟨(h.push (PySem.W.kdv_tup rest)).push (excO C h.objs.size), g, d, t, os⟩) :
    codeAny (model prog w) A (.call (.ref C) ⟨rest, kw⟩) R ⟨h, g, d, t, os⟩ := by
  have f1 := tc_lookup
  have f2 := tc_bind (.ref C)
  have hTy : (⟨h, g, d, t, os⟩ : Shared).TypeIs (.ref C) "type" := ⟨_, hC, rfl⟩
  refine codeAny_of_tree ?_
  show wpAny _ _ (callAny (.ref C) _) _ _ _
  repeat (any_goals (first | assumption | with_reducible refine wpAny_loadPart_at hC ?_ | wp_step))
  refine ⟨rfl, ?_⟩
  refine codeAny_call_builtin_at (Code.quiet_builtin _ (by decide +kernel)) entry_typeCall (wpAny_check_type_call_sub hC (type_call_kw F hT hC hi hb hr ?_))
  refine codeAny_mono hq fun r s' z => ?_
  rcases r with e | (v | _ | _ | _) <;> exact z
end
end L2

set_option Elab.async false
set_option maxRecDepth 100000
set_option maxHeartbeats 4000000
set_option linter.all false
namespace L2
open PySem PySem.Spec PyProof.Rows
section
variable {X : Cx} {pins : List (Addr × Obj)} {σ : St} {H : Hp} {s : Shared} {a C dx : Addr} {f : Str} {y : V} {u : Value}
  {fs : List (Str × V)} {Q : Unit → Shared → Prop} {E : Value → Shared → Prop} {A : Around}
/-- the error at a gets its dict at dx, both tracked -/
theorem swap_un {hp h' : Heap} {ex : List Addr} (fr : List Addr) (hok : HOk X.prog X.w H hp) (e : H a = some (exo a C none)) (dn : hp.objs.size ≤ dx)
    (kp : ∀ b o, b ≠ a → hp.get? b = some o → h'.get? b = some o) (ha : ∃ o, h'.get? a = some o) :
    Un fr ex H (upd (upd H dx (exd dx fs)) a (exo a C (some dx))) hp h' := by
  have nd : H dx = none := hok.fresh dn
  have old : ∀ {b : Addr} {o : Obj}, hp.get? b = some o → b ≠ dx := fun z => Nat.ne_of_lt (Nat.lt_of_lt_of_le (Heap.lt_size z) dn)
  have na : ∀ {b : Addr}, H b = none → b ≠ a := fun n z => by rw [z, e] at n; cases n
  have kind : ∀ {b : Addr} {o : HO}, H b = some o → exo a C none ≠ o → upd (upd H dx (exd dx fs)) a (exo a C (some dx)) b = some o := fun {b o} z d => by
    rw [upd_ne (at_ne e z d), upd_ne (ne_of_none z nd)]
    exact z
  exact {
    keep := fun b o z n _ _ => kp b o (na n) z
    slot := fun b o z n _ _ => ⟨o.slots, kp b o (na n) z⟩
    free := fun b o z n _ => by
      rw [upd_ne (na n), upd_ne (old z)]
      exact n
    there := fun b o z _ => by
      rcases Decidable.em (b = a) with q | q
      · rw [q]; exact ha
      · exact ⟨o, kp b o q z⟩
    tups := fun b xs z => kind z exo_tup
    frzs := fun b o v z => kind z exo_frz
    tbls := fun b ps z => ⟨#[], by rw [kind z exo_tbl]; simp⟩ }
theorem swap_ok {hp h' : Heap} {t1 : Addr} {mA : Str → Option Value} (hok : HOk X.prog X.w H hp) (e : H a = some (exo a C none)) (dn : hp.objs.size ≤ dx)
    (kp : ∀ b o, b ≠ a → hp.get? b = some o → h'.get? b = some o)
    (ha : h'.get? a = some { cls := .ref C, dict := some dx, data := .fields #[.ref t1, .none, .none, .none, .bool false, .none] })
    (hn : h'.Ns1 dx mA) (r : ∀ g, RelO (fs.lookup g) (mA g)) : HOk X.prog X.w (upd (upd H dx (exd dx fs)) a (exo a C (some dx))) h' := by
  have nd : H dx = none := hok.fresh dn
  intro b o q
  rcases Decidable.em (b = a) with z | z
  · subst z
    rw [upd_same] at q
    cases q
    exact exo_ok ha
  · rw [upd_ne z] at q
    rcases Decidable.em (b = dx) with z2 | z2
    · subst z2
      rw [upd_same] at q
      cases q
      exact exd_ok hn r
    · rw [upd_ne z2] at q
      have far : ∀ {c : Addr} {u : HO}, H c = some u → exo a C none ≠ u → upd (upd H dx (exd dx fs)) a (exo a C (some dx)) c = some u := fun {c u} k d => by
        rw [upd_ne (at_ne e k d), upd_ne (ne_of_none k nd)]
        exact k
      exact (hok b o q).stay (fun c v hc k => kp c v (by rcases hc with hc | hc; exact hc ▸ z; exact at_ne e hc exo_own) k)
        (fun c hc => far hc exo_own) (fun c xs hc => far hc exo_tup)
/-- self.f = y, the first store -/
theorem put_new (T : ErrC X.K C) (I : Inv X pins σ H s) (e : H a = some (exo a C none)) (hno : PySem.W.findIn X.K (.ref C) f = some none) (ry : RelV y u)
    (h : ∀ dx s', H dx = none → dx ≠ a → Inv X pins σ (upd (upd H dx (exd dx [(f, y)])) a (exo a C (some dx))) s' → Q () s') :
    wpAny (model X.prog X.w) A (setAttr (.ref a) f u) Q E s := by
  obtain ⟨t1, ho⟩ := exo_at I.hok e
  obtain ⟨hp, g, d, t, os⟩ := s
  refine PySem.W.set_plain I.kIn (od := none) ⟨ho, rfl, rfl, trivial⟩ T.sa ?_
  refine sa_new T I.kIn ho hno fun h' tk' dx k dn dne hx hn => ?_
  exact h dx _ (I.hok.fresh dn) dne (I.un (t' := tk') (swap_un _ I.hok e dn k ⟨_, hx⟩) (swap_ok I.hok e dn k hx hn (relO_put (fs := []) ry fun _ => True.intro)))
/-- self.f = y, a further store -/
theorem put_old (T : ErrC X.K C) (I : Inv X pins σ H s) (e : H a = some (exo a C (some dx))) (ed : H dx = some (exd dx fs)) (hl : fs.length ≤ 900)
    (hno : PySem.W.findIn X.K (.ref C) f = some none) (ry : RelV y u)
    (h : ∀ s', Inv X pins σ (upd H dx (exd dx ((f, y) :: fs))) s' → Q () s') : wpAny (model X.prog X.w) A (setAttr (.ref a) f u) Q E s := by
  obtain ⟨t1, ho⟩ := exo_at I.hok e
  obtain ⟨mA, hns, rel⟩ := exd_at I.hok ed
  have hw := within_of rel
  obtain ⟨hp, g, d, t, os⟩ := s
  obtain ⟨oD, _, _, hoD, _, _⟩ := hns.count hw
  refine PySem.W.set_plain I.kIn (od := some oD) ⟨ho, rfl, rfl, hoD⟩ T.sa ?_
  refine sa_old T I.kIn ho hns hw (by rw [List.length_map]; omega) hno fun h' tk' k hn => ?_
  have there : ∃ o, h'.get? dx = some o := let ⟨o, _, _, z, _⟩ := hn; ⟨o, z⟩
  exact h _ (I.write (t' := tk') (x := dx) (e := dx) (by rw [ed]; exact True.intro) (.inl rfl) k there (exd_ok hn (relO_put ry rel)))
end
/-- self.f = e in an own error's __init__ -/
def tPut (K : PySem.W.Frag) (f : Str) (to te : TE) : TS := fun D σ H => te σ H fun y H1 => to σ H1 fun x H2 => ∃ a C : Addr, x = .ref a ∧ ErrC K C ∧
  PySem.W.findIn K (.ref C) f = some none ∧
  ((H2 a = some (exo a C none) ∧ ∀ dx, H2 dx = none → dx ≠ a → D.nx σ (upd (upd H2 dx (exd dx [(f, y)])) a (exo a C (some dx)))) ∨
    ∃ (dx : Addr) (fs : List (Str × V)), H2 a = some (exo a C (some dx)) ∧ H2 dx = some (exd dx fs) ∧ fs.length ≤ 900 ∧ D.nx σ (upd H2 dx (exd dx ((f, y) :: fs))))
theorem ps_put {X : Cx} {o e : Expr} {to te : TE} {f : Str} {p' pos : Pos} (ho : PE X o to) (he : PE X e te)
    (hs : swapsWith e (some (.Attribute o f p')) pos.line X.env = pure false := by rfl) : PS X (.Assign [.Attribute o f p'] e pos) (tPut X.K f to te) := by
  refine ⟨fun pins s σ H D I h => ?_⟩
  refine plainObj_wpAny_Assign_Attribute (thn (he.run pins s σ H _ I h) fun v s1 ⟨y, H1, I1, r1, q1⟩ => thn (ho.run pins s1 σ H1 _ I1 q1) fun u s2 ⟨x, H2, I2, r2, q2⟩ => ?_) hs
  obtain ⟨a, C, ex, T, hno, q⟩ := q2
  subst ex
  obtain rfl : u = Value.ref a := r2
  rcases q with ⟨ea, q⟩ | ⟨dx, fs, ea, ed, hl, q⟩
  · exact put_new T I2 ea hno r1 fun dx s' n ne J => ⟨σ, _, J, q dx n ne⟩
  · exact put_old T I2 ea ed hl hno r1 fun s' J => ⟨σ, _, J, q⟩
/-- what __init__ of an own error promises: its values stand in its dict -/
def spErr (C : Addr) (fns : List Str) : Sp := fun vs H Q _ => ∃ (a : Addr) (ws : List V), vs = .ref a :: ws ∧ ws.length = fns.length ∧ H a = some (exo a C none) ∧
  ∀ dx H', H dx = none → dx ≠ a → H' dx = some (exd dx (fns.zip ws).reverse) → H' a = some (exo a C (some dx)) → (∀ b, b ≠ a → b ≠ dx → H' b = H b) → Q .non H'
/-- C(e, ..), C an own error class: a new error and its dict -/
def tNew (C : Addr) (fns : List Str) (ta : TA) : TE := fun σ H Q => ta σ H fun vs H1 => vs.length = fns.length ∧
  ∀ a dx H', H1 a = none → H1 dx = none → dx ≠ a → H' dx = some (exd dx (fns.zip vs).reverse) → H' a = some (exo a C (some dx)) → (∀ b, b ≠ a → b ≠ dx → H' b = H1 b) → Q (.ref a) H'
section
variable {X : Cx} {CX : CXT} {k : Nat} {fI C : Addr} {fd : FuncData} {fns ps : List Str} {x : Str} {p pos : Pos} {e : Expr} {es : List Expr} {ta : TA}
/-- an own error class whose __init__ keeps that promise -/
structure MkE (X : Cx) (CX : CXT) (k : Nat) (C fI : Addr) (fd : FuncData) (ps fns : List Str) : Prop where
  T : ErrC X.K C
  iC : PySem.W.findIn X.K (.ref C) "__init__" = some (some (.ref fI))
  tI : PySem.W.typeIn X.K (.ref fI) = some (.type "function")
  F : FnOk X.prog X.w X.K X.mg X.base CX k fI fd ps (spErr C fns)
  few : fns.length ≤ 1000
theorem run_new {pins : List (Addr × Obj)} {σ : St} {H : Hp} {s : Shared} {Q : VK} {us all : List Value} {vs : List V} {kw : List (Str × Value)} (M : MkE X CX k C fI fd ps fns) (hr : Room (k + 1) X.A) (hx : Passes CX X E0) (I : Inv X pins σ H s)
    (hb : ∀ (s : Shared) (e : Value), X.K.In s.heap → BindsTo s fd ⟨e :: us, kw⟩ (ps.zip (e :: all))) (hus : us.length ≤ sizeLine)
    (r : Vals vs all) (hl : vs.length = fns.length)
    (h : ∀ a dx H', H a = none → H dx = none → dx ≠ a → H' dx = some (exd dx (fns.zip vs).reverse) → H' a = some (exo a C (some dx)) → (∀ b, b ≠ a → b ≠ dx → H' b = H b) → Q (.ref a) H') :
    wpAny (model X.prog X.w) X.A (call (.ref C) us kw) (EP X pins σ Q) X.xe s := by
  obtain ⟨nm, N, qn, bs, bm, hdct, sn, sub, ab, col, dd, k0, k1, k2, k3, k5, hC, hT⟩ := PySem.W.excInit_of I.kIn M.T.ini
  obtain ⟨hp, g, dr, tk, os⟩ := s
  have hsz : hp.objs.size ≤ hp.objs.size + 1 := Nat.le_succ _
  have hn : H (hp.objs.size + 1) = none := I.hok.fresh hsz
  have kk : ∀ b o, hp.get? b = some o → ((hp.push (PySem.W.kdv_tup us)).push (PySem.HandSPX.excO C hp.objs.size)).get? b = some o := fun b o z => Heap.get?_push_of_some _ (Heap.get?_push_of_some _ z)
  have hget : ((hp.push (PySem.W.kdv_tup us)).push (PySem.HandSPX.excO C hp.objs.size)).get? (hp.objs.size + 1) = some (PySem.HandSPX.excO C hp.objs.size) := by heap_get
  have J : Inv X pins σ (upd H (hp.objs.size + 1) (exo (hp.objs.size + 1) C none)) ⟨(hp.push (PySem.W.kdv_tup us)).push (PySem.HandSPX.excO C hp.objs.size), g, dr, tk, os⟩ :=
    I.laid (t' := tk) kk hsz (exo_ok hget)
  have sp : spErr C fns (.ref (hp.objs.size + 1) :: vs) (upd H (hp.objs.size + 1) (exo (hp.objs.size + 1) C none)) (fun v H2 => v = .non ∧ Q (.ref (hp.objs.size + 1)) H2) E0 := by
    refine ⟨_, vs, rfl, hl, upd_same, fun dx H' nd ne e1 e2 e3 => ⟨rfl, h _ dx H' hn ?_ ne e1 e2 fun b h1 h2 => ?_⟩⟩
    · rw [upd_ne ne] at nd
      exact nd
    · rw [e3 b h1 h2, upd_ne h1]
  have r2 : Vals (V.ref (hp.objs.size + 1) :: vs) (Value.ref (hp.objs.size + 1) :: all) := .cons rfl r
  refine wpAny_call (call_kw PySem.F.excBase_LookupError hT hC (PySem.W.looks_findIn I.kIn M.iC) (fun self => PySem.W.bind_fn I.kIn self M.tI) hus
    (codeAny_mono (M.F.run _ X.stack _ _ ⟨Value.ref (hp.objs.size + 1) :: us, kw⟩ (Value.ref (hp.objs.size + 1) :: all) _ _ E0 (hr.make C us kw) (J.env0.make C us kw) (hb _ _ J.kIn) r2 sp) fun r s' hq' => ?_))
  cases r with
  | error er => exact hx pins σ _ _ er s' J hq'
  | ok fl =>
    cases fl with
    | ret u =>
      obtain ⟨v, H', I3, rv, ev, q3⟩ := J.after hq'
      subst ev
      exact ⟨rv, ⟨V.ref (hp.objs.size + 1), H', I3, rfl, q3⟩⟩
    | next => exact False.elim hq'
    | brk => exact False.elim hq'
    | cont => exact False.elim hq'
theorem pe_new (M : MkE X CX k C fI fd ps fns) (hr : Room (k + 1) X.A) (hg : Gl X x) (hm : X.mg x = some (.ref C)) (hb : Binds X.K fd ps []) (hp : ps.length = fns.length + 1) (hx : Passes CX X E0)
    (ha : PA X (e :: es) ta) (hdb : (x == ("__debug__" : Str)) = false := by decide) (he : starEach (e :: es) X.env = (false, eval e X.env) :: starEach es X.env := by rfl)
    (hpl : (backTo pos (starEach es X.env)).any (·.1) = false := by rfl) : PE X (.Call (.Name x p) (e :: es) [] pos) (tNew C fns ta) := by
  refine ⟨fun pins s σ H Q I h => ?_⟩
  refine wpAny_Call_Name_kw (ld_glob I hg hm ?_ hdb)
  refine PySem.W.callWith_K (h₀ := X.base) I.ok.mod.kin M.T.kC (thn (ha.run pos pins s σ H _ I h) fun us s1 ⟨vs, H1, I1, r, hl, q⟩ => ⟨I1.kIn, ?_⟩) he hpl
  have lu : us.length = fns.length := r.length.symm.trans hl
  refine run_new (all := us) M hr hx I1 (fun s e0 X0 => ?_) (by show us.length ≤ sizeLine; rw [lu, sizeLine_eq]; have := M.few; omega) r hl q
  have b := hb s (e0 :: us) X0 (by rw [List.append_nil, List.length_cons, lu, hp])
  rw [List.append_nil] at b
  exact b
/-- C(k = e, ..): g puts the keywords' values in the order of the parameters -/
theorem pe_newK {kws : List Keyword} {ks : List Str} {tk : TA} {g : {α : Type} → List α → List α} (M : MkE X CX k C fI fd ps fns) (hr : Room (k + 1) X.A) (hg : Gl X x) (hm : X.mg x = some (.ref C))
    (hb : ∀ (s : Shared) (e : Value) (ws : List Value), X.K.In s.heap → ws.length = fns.length → BindsTo s fd ⟨[e], ks.zip ws⟩ (ps.zip (e :: g ws)))
    (hrel : ∀ {zs : List V} {ws : List Value}, Vals zs ws → zs.length = fns.length → Vals (g zs) (g ws)) (hlen : ∀ zs : List V, zs.length = fns.length → (g zs).length = fns.length) (hx : Passes CX X E0)
    (hkw : PK X kws tk) (hall : (backToKw pos (keywordEach kws X.env)).all (·.1.isSome) = true := by rfl) (hks : (backToKw pos (keywordEach kws X.env)).filterMap (·.1) = ks := by rfl)
    (hdb : (x == ("__debug__" : Str)) = false := by decide)
    (hpl : ((backTo pos (starEach [] X.env)).any (·.1) || (backToKw pos (keywordEach kws X.env)).any (·.1.isNone)) = false := by rfl) :
    PE X (.Call (.Name x p) [] kws pos) (tNew C fns fun σ H Q => tk σ H fun zs H1 => zs.length = fns.length ∧ Q (g zs) H1) := by
  refine ⟨fun pins s σ H Q I h => ?_⟩
  refine wpAny_Call_Name_kw (ld_glob I hg hm ?_ hdb)
  refine PySem.W.callWith_KW0 (h₀ := X.base) I.ok.mod.kin M.T.kC hall ?_ hpl
  refine thn (hkw.run pos pins s σ H _ I h) fun ws s2 ⟨zs, H2, I2, rz, lz, l2, q2⟩ => ⟨I2.kIn, ?_⟩
  rw [hks]
  exact run_new (us := []) (all := g ws) M hr hx I2 (fun s e0 X0 => hb s e0 ws X0 (rz.length.symm.trans lz)) (by show 0 ≤ sizeLine; exact Nat.zero_le _) (hrel rz lz) l2 q2
/-- e.f, e an own error -/
def tEf (C : Addr) (f : Str) (te : TE) : TE := fun σ H Q => te σ H fun x H1 => ∃ (a dx : Addr) (fs : List (Str × V)) (v : V), x = .ref a ∧ H1 a = some (exo a C (some dx)) ∧ H1 dx = some (exd dx fs) ∧ fs.lookup f = some v ∧ Q v H1
theorem pe_ef {te : TE} {f : Str} (T : ErrC X.K C) (hno : PySem.W.findIn X.K (.ref C) f = some none) (he : PE X e te)
    (hb : attributeBase e f X.env (eval e X.env) = eval e X.env := by rfl) : PE X (.Attribute e f pos) (tEf C f te) := by
  refine ⟨fun pins s σ H Q I h => ?_⟩
  refine attr_of hb (thn (he.run pins s σ H _ I h) fun u s1 hh => ?_)
  obtain ⟨x, H1, I1, rx, a, dx, fs, v, ex, ea, ed, l, q⟩ := hh
  subst ex
  obtain rfl : u = Value.ref a := rx
  obtain ⟨t1, ho⟩ := exo_at I1.hok ea
  obtain ⟨mA, hns, hr⟩ := exd_at I1.hok ed
  obtain ⟨od, hod, hl⟩ := lookIn_ns hns
  obtain ⟨u, hu, ru⟩ := RelO.some_of (v := v) (o := mA f) (by rw [← l]; exact hr f)
  have J : PySem.W.InstAt s1.heap a _ C (some od) := ⟨ho, rfl, rfl, hod⟩
  exact HandSPX.exc_get I1.kIn J T.ga T.gg T.exC (PySem.W.findObj_own T.hdC hno rfl (by rw [hl, hu])) (handed_of ru) ⟨v, H1, I1.tok _, ru, q⟩
end
end L2

set_option Elab.async false
set_option maxRecDepth 100000
set_option maxHeartbeats 4000000
set_option linter.all false
namespace L2
open PySem PySem.Spec PyProof.Rows
/-! ### isinstance of an own error that has its dict -/
def rIsErr (K : PySem.W.Frag) (C : Addr) : List V → Hp → VK → Prop := fun xs H Q => ∃ (a dx : Addr) (fs : List (Str × V)) (c : V) (u : Value) (b : Bool),
  xs = [.ref a, c] ∧ H a = some (exo a C (some dx)) ∧ H dx = some (exd dx fs) ∧ ClsV c u ∧ PySem.W.kitOne K (.ref C) u = some b ∧ Q (.bl b) H
theorem call_isErr {X : Cx} {C : Addr} (T : ErrC X.K C) : CallR X (.builtin "isinstance") (rIsErr X.K C) := by
  intro pins s σ H xs us Q I r h
  obtain ⟨a, dx, fs, c, u, b, rfl, ea, ed, k, e, q⟩ := h
  obtain ⟨u1, u2, rfl, r1, r2⟩ := vals2 r
  cases (show u1 = Value.ref a from r1)
  have e2 := k.eq r2
  subst e2
  obtain ⟨t1, ho⟩ := exo_at I.hok ea
  obtain ⟨mA, hns, hr⟩ := exd_at I.hok ed
  obtain ⟨od, hod, hl⟩ := lookIn_ns hns
  have J : PySem.W.InstAt s.heap a _ C (some od) := ⟨ho, rfl, rfl, hod⟩
  obtain ⟨cd, hcd, _⟩ := PySem.W.any_some T.hdC
  exact PySem.W.kia_one (PySem.W.kitx_exc (by rw [hcd]; rfl) T.ga T.gg T.exC T.ca T.cg T.ct T.cm) I.kIn J e (fun z => nomatch z) fun tk => ⟨.bl b, H, I.tok tk, rfl, q⟩
/-! ### a power of a greater number -/
def CPowW (i j : Int) : Prop := i.natAbs.log2 < 1000 ∧ 0 ≤ j ∧ j ≤ 1000
theorem op_powW {X : Cx} : OpR X (binaryOp .Pow) (rI CPowW fun i j => .int (i ^ j.toNat)) := opI fun i j t u s Q E hc q => by
  obtain ⟨h1, h2, h3⟩ := hc
  have z : bitsLine = 134217728 := by decide
  have b : Builtin.Int.intBits i ≤ i.natAbs.log2 + 1 := by
    unfold Builtin.Int.intBits
    split <;> omega
  refine pow_int h2 ?_ q
  have c : (Builtin.Int.intBits i : Int) ≤ 1000 := by omega
  have m := Int.mul_le_mul c h3 h2 (by decide : (0 : Int) ≤ 1000)
  exact Int.le_trans m (by decide)
end L2
namespace He
open PySem PySem.Spec PyProof.Rows L2
/-! ### own errors by the head -/
/-- what the head tells of an own error class -/
def errB (K : PySem.W.Frag) (C : Addr) : Bool :=
  PySem.W.excInitIn K C leTail "LookupError.__new__" && (PySem.W.excOver K C leTail &&
  (eqO (PySem.W.findIn K (.ref C) "__setattr__") (some (some (.builtin "object.__setattr__"))) &&
  (eqO (PySem.W.findIn K (.ref C) "__getattribute__") (some (some (.builtin "BaseException.__getattribute__"))) &&
  (eqO (PySem.W.findIn K (.ref C) "__getattr__") (some none) &&
  (decide (PySem.W.subIn K (.ref C) (.type "BaseException") = some true) && (decide (PySem.W.typeIn K (.ref C) = some (.type "type")) &&
  (PySem.W.keepIn K (.ref C) && (PySem.W.hasDictIn K C &&
  (eqO (PySem.W.findIn K (.ref C) "__class__") (some (some (.builtin "object.__class__"))) &&
  (eqO (PySem.W.specialIn K (.builtin "object.__class__") "__get__") (some (some (.builtin "getset_descriptor.__get__"))) &&
  (decide (PySem.W.takesIn K (.builtin "object.__class__") = some true) && decide (PySem.W.mroIn K C (.type "object") = some true))))))))))))
theorem errB_ok {K : PySem.W.Frag} {C : Addr} (h : errB K C = true) : ErrC K C := by
  obtain ⟨h1, h⟩ := ba h
  obtain ⟨h2, h⟩ := ba h
  obtain ⟨h3, h⟩ := ba h
  obtain ⟨h4, h⟩ := ba h
  obtain ⟨h5, h⟩ := ba h
  obtain ⟨h6, h⟩ := ba h
  obtain ⟨h7, h⟩ := ba h
  obtain ⟨h8, h⟩ := ba h
  obtain ⟨h9, h⟩ := ba h
  obtain ⟨h10, h⟩ := ba h
  obtain ⟨h11, h⟩ := ba h
  obtain ⟨h12, h13⟩ := ba h
  exact ⟨h1, h2, eqO_ok h3, eqO_ok h4, eqO_ok h5, of_decide_eq_true h6, of_decide_eq_true h7, h8, h9, eqO_ok h10, eqO_ok h11, of_decide_eq_true h12, of_decide_eq_true h13⟩
/-- .. and of its __init__ -/
def iniB (K : PySem.W.Frag) (C : Addr) : Bool :=
  eqO (PySem.W.findIn K (.ref C) "__init__") (some (some (.ref (ma K C "__init__")))) &&
  decide (PySem.W.typeIn K (.ref (ma K C "__init__")) = some (.type "function"))
end He

set_option Elab.async false
set_option maxRecDepth 100000
set_option maxHeartbeats 4000000
set_option linter.all false
namespace L2
open PySem PySem.Spec PyProof.Rows
/-! ### a def of the module by its name -/
structure Def (P : Program) (w : World) (K : PySem.W.Frag) (mg : Str → Option Value) (base : Heap) (CX : CXT) (k : Nat) (x : Str) (ps : List Str) (sp : Sp) : Prop where
  ex : ∃ (f : Addr) (fd : FuncData), mg x = some (.ref f) ∧ PySem.W.keepIn K (.ref f) = true ∧ Binds K fd ps [] ∧ FnOk P w K mg base CX k f fd ps sp
section
variable {X : Cx} {CX : CXT} {k : Nat} {ps : List Str} {sp : Sp} {E : XK} {x : Str} {p pos : Pos} {e : Expr} {es : List Expr} {t : TA}
theorem pe_ref {a : Addr} {pos : Pos} (hg : Gl X x) (hm : X.mg x = some (.ref a)) (hd : (x == ("__debug__" : Str)) = false := by decide) : PE X (.Name x pos) (tC (.ref a)) :=
  pe_glob hg hm (show RelV (.ref a) (Value.ref a) from rfl) hd
theorem pe_fn (c : Def X.prog X.w X.K X.mg X.base CX k x ps sp) (hr : Room k X.A) (hg : Gl X x) (hx : Passes CX X E) (ha : PA X (e :: es) t)
    (hdb : (x == ("__debug__" : Str)) = false := by decide) (he : starEach (e :: es) X.env = (false, eval e X.env) :: starEach es X.env := by rfl)
    (hpl : (backTo pos (starEach es X.env)).any (·.1) = false := by rfl) : PE X (.Call (.Name x p) (e :: es) [] pos) (tCall sp [] E t) := by
  obtain ⟨f, fd, hm, hk, hb, F⟩ := c.ex
  exact pe_call F hr hg hm hk hb .nil hx ha hdb he hpl
theorem pe_fn0 (c : Def X.prog X.w X.K X.mg X.base CX k x ps sp) (hr : Room k X.A) (hg : Gl X x) (hx : Passes CX X E)
    (hdb : (x == ("__debug__" : Str)) = false := by decide) : PE X (.Call (.Name x p) [] [] pos) (tCall sp [] E tNil) := by
  obtain ⟨f, fd, hm, hk, hb, F⟩ := c.ex
  exact pe_call0 F hr hg hm hk hb .nil hx hdb
end
/-! ### __init__ of an own error: it stores what it is given -/
section
variable {P : Program} {w : World} {K : PySem.W.Frag} {mg : Str → Option Value} {base : Heap}
theorem ok_ini1 {C f : Addr} {fd : FuncData} {fn qual : Str} {params : Arguments} {scope : Scope} {p1 p2 p3 p4 : Pos}
    (F : FunD K "__init__" qual params [.Assign [.Attribute (.Name "self" p1) fn p2] (.Name fn p3) p4] scope [] [] f fd) (S : FnScope ["self", fn] ["self", fn] scope)
    (v1 : scope.names.lookup ("self" : Str) = some NameKind.local) (v2 : scope.names.lookup fn = some NameKind.local) (d1 : (fn == ("__debug__" : Str)) = false) (d2 : (fn == ("__classdict__" : Str)) = false)
    (T : ErrC K C) (hno : PySem.W.findIn K (.ref C) fn = some none) : FnOk P w K mg base CX0 1 f fd ["self", fn] (spErr C [fn]) := by
  refine F.ok S (fun vs H Q E h => ?_) (fun cdv A outer s H vs Q E hr h => ?_)
  · obtain ⟨a, ws, rfl, hl, _⟩ := h
    rw [List.length_cons, hl] <;> rfl
  · obtain ⟨a, ws, rfl, hl, ha, k⟩ := h
    obtain ⟨y, rfl⟩ : ∃ y, ws = [y] := by
      match ws, hl with
      | [y], _ => exact ⟨y, rfl⟩
    refine ⟨_, PSs.nox (pss_one (ps_put (pe_var (i := 0) rfl (.inl v1)) (pe_var (i := 1) rfl (.inl v2) d1 d2))), ?_⟩
    refine ⟨_, rfl, _, rfl, a, C, rfl, T, hno, .inl ⟨ha, fun dx nd ne => ?_⟩⟩
    refine k dx _ nd ne ?_ upd_same fun b h1 h2 => ?_
    · rw [upd_ne ne, upd_same]
      rfl
    · rw [upd_ne h1, upd_ne h2]
theorem ok_ini2 {C f : Addr} {fd : FuncData} {fn gn qual : Str} {params : Arguments} {scope : Scope} {p1 p2 p3 p4 q1 q2 q3 q4 : Pos}
    (F : FunD K "__init__" qual params [.Assign [.Attribute (.Name "self" p1) fn p2] (.Name fn p3) p4, .Assign [.Attribute (.Name "self" q1) gn q2] (.Name gn q3) q4] scope [] [] f fd)
    (S : FnScope ["self", fn, gn] ["self", fn, gn] scope)
    (v1 : scope.names.lookup ("self" : Str) = some NameKind.local) (v2 : scope.names.lookup fn = some NameKind.local) (v3 : scope.names.lookup gn = some NameKind.local)
    (d1 : (fn == ("__debug__" : Str)) = false) (d2 : (fn == ("__classdict__" : Str)) = false) (d3 : (gn == ("__debug__" : Str)) = false) (d4 : (gn == ("__classdict__" : Str)) = false)
    (T : ErrC K C) (hno : PySem.W.findIn K (.ref C) fn = some none) (hno2 : PySem.W.findIn K (.ref C) gn = some none) : FnOk P w K mg base CX0 1 f fd ["self", fn, gn] (spErr C [fn, gn]) := by
  refine F.ok S (fun vs H Q E h => ?_) (fun cdv A outer s H vs Q E hr h => ?_)
  · obtain ⟨a, ws, rfl, hl, _⟩ := h
    rw [List.length_cons, hl] <;> rfl
  · obtain ⟨a, ws, rfl, hl, ha, k⟩ := h
    obtain ⟨y, z, rfl⟩ : ∃ y z, ws = [y, z] := by
      match ws, hl with
      | [y, z], _ => exact ⟨y, z, rfl⟩
    refine ⟨_, PSs.nox (pss_cons (ps_put (pe_var (i := 0) rfl (.inl v1)) (pe_var (i := 1) rfl (.inl v2) d1 d2)) (pss_one (ps_put (pe_var (i := 0) rfl (.inl v1)) (pe_var (i := 2) rfl (.inl v3) d3 d4)))), ?_⟩
    refine ⟨_, rfl, _, rfl, a, C, rfl, T, hno, .inl ⟨ha, fun dx nd ne => ?_⟩⟩
    have e1 : upd (upd H dx (exd dx [(fn, y)])) a (exo a C (some dx)) dx = some (exd dx [(fn, y)]) := by
      rw [upd_ne ne, upd_same]
    refine ⟨_, rfl, _, rfl, a, C, rfl, T, hno2, .inr ⟨dx, _, upd_same, e1, by show 1 ≤ 900; decide, ?_⟩⟩
    refine k dx _ nd ne ?_ ?_ fun b h1 h2 => ?_
    · rw [upd_same]
      rfl
    · rw [upd_ne (Ne.symm ne), upd_same]
    · rw [upd_ne h2, upd_ne h1, upd_ne h2]
end
theorem Same.new {H : Hp} {p : Addr} {o : HO} (h : H p = none) : Same H (upd H p o) := fun b u e => by
  rw [upd_ne (ne_of_none e h)]
  exact e
/-! ### ways joined -/
theorem tchainC {f g : Int → Int → Bool} {c i j : Int} {ta tb : TE} {σ : St} {H : Hp} {Q : VK} (ha : Val ta σ H (.int i)) (hb : Val tb σ H (.int j)) (h : Q (.bl (f i j && g j c)) H) :
    tChain (rI0 fun i j => .bl (f i j)) (rI0 fun i j => .bl (g i j)) ta tb (tC (.int c)) σ H Q := by
  refine ha _ (hb _ ⟨i, j, rfl, rfl, f i j, rfl, ?_⟩)
  cases e : f i j with
  | true =>
    rw [e] at h
    exact iteT ⟨j, c, rfl, rfl, h⟩
  | false =>
    rw [e] at h
    exact iteF h
theorem iteF' {c : Bool} {A B : Prop} (hc : c = false) (h : B) : if c = true then A else B := by
  rw [hc]
  exact iteF h
theorem iteT' {c : Bool} {A B : Prop} (hc : c = true) (h : A) : if c = true then A else B := by
  rw [hc]
  exact iteT h
/-! ### an own error by the name of its class -/
structure ErrDef (P : Program) (w : World) (K : PySem.W.Frag) (mg : Str → Option Value) (base : Heap) (CX : CXT) (k : Nat) (x : Str) (C : Addr) (ps fns : List Str) : Prop where
  ex : ∃ (fI : Addr) (fd : FuncData), mg x = some (.ref C) ∧ ErrC K C ∧ PySem.W.findIn K (.ref C) "__init__" = some (some (.ref fI)) ∧ PySem.W.typeIn K (.ref fI) = some (.type "function") ∧
    Binds K fd ps [] ∧ (∀ (s : Shared) (e : Value) (ws : List Value), K.In s.heap → ws.length = fns.length → BindsTo s fd ⟨[e], fns.reverse.zip ws⟩ (ps.zip (e :: ws.reverse))) ∧
    FnOk P w K mg base CX k fI fd ps (spErr C fns) ∧ fns.length ≤ 1000 ∧ ps.length = fns.length + 1
section
variable {X : Cx} {CX : CXT} {k : Nat} {C : Addr} {ps fns : List Str} {x : Str} {p pos : Pos} {e : Expr} {es : List Expr} {ta : TA}
theorem pe_err (c : ErrDef X.prog X.w X.K X.mg X.base CX k x C ps fns) (hr : Room (k + 1) X.A) (hg : Gl X x) (hx : Passes CX X E0) (ha : PA X (e :: es) ta)
    (hdb : (x == ("__debug__" : Str)) = false := by decide) (he : starEach (e :: es) X.env = (false, eval e X.env) :: starEach es X.env := by rfl)
    (hpl : (backTo pos (starEach es X.env)).any (·.1) = false := by rfl) : PE X (.Call (.Name x p) (e :: es) [] pos) (tNew C fns ta) := by
  obtain ⟨fI, fd, hm, T, iC, tI, hb, _, F, few, hp⟩ := c.ex
  exact pe_new (CX := CX) (k := k) (fI := fI) (fd := fd) (ps := ps) ⟨T, iC, tI, F, few⟩ hr hg hm hb hp hx ha hdb he hpl
/-- the keywords in turned order -/
theorem pe_errK {kws : List Keyword} {tk : TA} (c : ErrDef X.prog X.w X.K X.mg X.base CX k x C ps fns) (hr : Room (k + 1) X.A) (hg : Gl X x) (hx : Passes CX X E0)
    (hkw : PK X kws tk) (hall : (backToKw pos (keywordEach kws X.env)).all (·.1.isSome) = true := by rfl) (hks : (backToKw pos (keywordEach kws X.env)).filterMap (·.1) = fns.reverse := by rfl)
    (hdb : (x == ("__debug__" : Str)) = false := by decide)
    (hpl : ((backTo pos (starEach [] X.env)).any (·.1) || (backToKw pos (keywordEach kws X.env)).any (·.1.isNone)) = false := by rfl) :
    PE X (.Call (.Name x p) [] kws pos) (tNew C fns fun σ H Q => tk σ H fun zs H1 => zs.length = fns.length ∧ Q zs.reverse H1) := by
  obtain ⟨fI, fd, hm, T, iC, tI, _, hb, F, few, hp⟩ := c.ex
  exact pe_newK (CX := CX) (k := k) (fI := fI) (fd := fd) (ps := ps) (ks := fns.reverse) (g := List.reverse) ⟨T, iC, tI, F, few⟩ hr hg hm hb (fun r _ => r.reverse) (fun zs h => by rw [List.length_reverse, h]) hx hkw hall hks hdb hpl
end
theorem nx_ {t b c : St → Hp → Prop} {r : VK} {σ : St} {H : Hp} (h : t σ H) : ({ nx := t, rt := r, bk := b, ct := c } : Ends).nx σ H := h
end L2

set_option Elab.async false
set_option maxRecDepth 100000
set_option maxHeartbeats 4000000
set_option linter.all false
/-! words of our own: a def of a class called off the class; a class made with defaults; {..} of two clauses over what is empty -/
namespace L2
open PySem PySem.Spec PyProof.Rows
/-- the def m of the class x, called as x.m(..) -/
structure CFun (P : Program) (w : World) (K : PySem.W.Frag) (mg : Str → Option Value) (base : Heap) (CX : CXT) (k : Nat) (x : Str) (C : Addr) (m : Str) (ps : List Str) (sp : Sp) : Prop where
  ex : ∃ (f : Addr) (fd : FuncData) (mc : Value), mg x = some (.ref C) ∧ ClX.CRead K C mc ∧ PySem.W.findCls K (.ref C) mc m = some (.val (.ref f)) ∧ PySem.W.keepIn K (.ref f) = true ∧ Binds K fd ps [] ∧ FnOk P w K mg base CX k f fd ps sp
/-- the class x, made with the defaults dvs -/
structure MkA (P : Program) (w : World) (K : PySem.W.Frag) (mg : Str → Option Value) (base : Heap) (CX : CXT) (k : Nat) (x : Str) (C : Addr) (dvs : List V) (ps : List Str) (sp : Sp) : Prop where
  ex : ∃ (f : Addr) (fd : FuncData) (ds : List Value), mg x = some (.ref C) ∧ Mk K C f ∧ Binds K fd ps ds ∧ Vals dvs ds ∧ FnOk P w K mg base CX k f fd ps sp
section
variable {X : Cx} {CX : CXT} {k : Nat} {C : Addr} {ps : List Str} {sp : Sp} {E : XK} {x m : Str} {dvs : List V} {e : Expr} {es : List Expr} {t : TA} {p p1 p2 pos : Pos}
theorem pe_cfun {pl : Sem Bool} (c : CFun X.prog X.w X.K X.mg X.base CX k x C m ps sp) (hr : Room k X.A) (hg : Gl X x) (hx : Passes CX X E) (ha : PA X (e :: es) t)
    (hdb : (x == ("__debug__" : Str)) = false := by decide) (he : starEach (e :: es) X.env = (false, eval e X.env) :: starEach es X.env := by rfl)
    (hpl : (backTo pos (starEach es X.env)).any (·.1) = false := by rfl)
    (ht : eval (.Call (.Attribute (.Name x p1) m p2) (e :: es) [] pos) X.env = (do
      let cls ← eval (.Name x p1) X.env
      standAt p2.atName
      let (g, before) ← holding [cls] (getMethod cls m pl)
      callWith pos g before (backTo pos (starEach (e :: es) X.env)) (backToKw pos (keywordEach [] X.env))) := by rfl) :
    PE X (.Call (.Attribute (.Name x p1) m p2) (e :: es) [] pos) (tCall sp [] E t) := by
  obtain ⟨f, fd, mc, hm, cr, hf, hk, hb, F⟩ := c.ex
  refine ⟨fun pins s σ H Q I h => PySem.W.methodCall_KW (ld_glob I hg hm ?_ hdb) ht⟩
  refine PySem.W.method_cls I.kIn cr.ga (PySem.W.cls_value I.kIn cr.rd hf (handed_of (v := .ref f) rfl) ?_)
  have I2 := I.tok (s.toks + 1)
  exact PySem.W.callWith_K (h₀ := X.base) I.ok.mod.kin hk (thn (ha.run pos pins _ σ H _ I2 h) fun us s1 ⟨vs, H1, I1, r, q⟩ => ⟨I1.kIn, run_fn F hr hb .nil hx I1 r q⟩) he hpl
theorem pe_mkA (c : MkA X.prog X.w X.K X.mg X.base CX k x C dvs ps sp) (hr : Room (k + 1) X.A) (hg : Gl X x) (hx : Passes CX X E) (ha : PA X (e :: es) t)
    (hdb : (x == ("__debug__" : Str)) = false := by decide) (he : starEach (e :: es) X.env = (false, eval e X.env) :: starEach es X.env := by rfl)
    (hpl : (backTo pos (starEach es X.env)).any (·.1) = false := by rfl) : PE X (.Call (.Name x p) (e :: es) [] pos) (tMake C sp dvs E t) := by
  obtain ⟨f, fd, ds, hm, M, hb, hd, F⟩ := c.ex
  exact pe_make M F hr hg hm hb hd hx ha hdb he hpl
theorem pe_never {e : Expr} : PE X e (fun _ _ _ => False) := ⟨fun _ _ _ _ _ _ h => h.elim⟩
theorem pt_never {e : Expr} : PT X e (fun _ _ _ => False) := ⟨fun _ _ _ _ _ _ h => h.elim⟩
end
end L2

set_option Elab.async false
set_option maxRecDepth 100000
set_option maxHeartbeats 4000000
set_option linter.all false
namespace L2
open PySem PySem.Spec PyProof.Rows
section
variable {prog : Program} {w : World} {A : Around} {R : Result → Shared → Prop} {s : Shared} {env : Env}
theorem turn_first (elt t0 i0 t1 i1 : Expr) (sc : Scope) (pos : Pos) (it acc : Value) (env : Env) : ∃ k : Value → Sem Fin,
    compTurn (.SetComp elt [⟨t0, i0, [], 0⟩, ⟨t1, i1, [], 0⟩] sc pos) 0 it acc env = (do
      standAt i0.pos
      match ← pyNext it with
      | none => pure (.done .next)
      | some v => k v) := ⟨_, rfl⟩
/-- the first clause has nothing to go over -/
theorem loop_none {elt t0 i0 t1 i1 : Expr} {sc : Scope} {pos : Pos} {it acc : Value}
    (h : wpAny (model prog w) A (pyNext it) (fun r s' => r = none ∧ R (.ok .next) s') (fun _ _ => False) s) :
    codeAny (model prog w) A (.compLoop (.SetComp elt [⟨t0, i0, [], 0⟩, ⟨t1, i1, [], 0⟩] sc pos) 0 it acc env) R s := by
  obtain ⟨k, e⟩ := turn_first elt t0 i0 t1 i1 sc pos it acc env
  refine codeAny_loop rfl (fun _ s' => s' = s) (fun n s' hs => ?_) 0 rfl
  subst hs
  show wpAny _ A ((compTurn (.SetComp elt [⟨t0, i0, [], 0⟩, ⟨t1, i1, [], 0⟩] sc pos) 0 it acc env).onRaise (fun x => do noteFrame x env; theTreesLotGoes x)) _ _ _
  refine wpAny_noted ?_
  rw [e]
  refine wpAny_bind (wpAny_standAt (wpAny_bind (wpAny_mono h (fun r s1 hr => ?_) fun _ _ z => z.elim)))
  obtain ⟨rfl, hr⟩ := hr
  exact wpAny_pure hr
end
end L2

set_option Elab.async false
set_option maxRecDepth 100000
set_option maxHeartbeats 4000000
set_option linter.all false
namespace L2
open PySem PySem.Spec PyProof.Rows
section
variable {X : Cx}
/-- {e for a in xs for b in ys}, xs with nothing in it: the new set D is empty -/
def tScNil (w : World) (wi : TI) : TE := fun σ H Q => wi σ H fun J H1 => ∀ D, H1 D = none → J.stop 0 (upd H1 D (SetO w D (fun _ => false) 0)) ∧ Q (.ref D) (upd H1 D (SetO w D (fun _ => false) 0))
theorem pe_scNil {elt t0 i0 t1 i1 : Expr} {sc : Scope} {own : List (PySem.Str × Nat)} {pos : Pos} {wi : TI} (calm : X.calm = true) (nd : X.N.Nodup) (hi : PI X t0 i0 wi) (ok : BlkOk X.N X.env.scope sc own)
    (fold : ∀ x, foldedSetIterable i0 X.env x = pure x := by intro _; rfl) :
    PE X (.SetComp elt [⟨t0, i0, [], 0⟩, ⟨t1, i1, [], 0⟩] sc pos) (tScNil X.w wi) := by
  refine ⟨fun pins s σ H Q I h => ?_⟩
  rw [PpSet.eval_SetComp]
  have frees : ∀ y ∈ sc.names, y.2 = .free → ∃ c, X.env.cells.lookup y.1 = some c := fun y hy e =>
    (ok.free y hy e).elim (fun z => I.ok.has _ (.inl z)) fun z => I.ok.has _ (.inr z)
  refine wpAny_comprehension_free (use := none) rfl fold (closure_ok frees) ok.kind (fun y hy e => by rw [ok.uniq y hy, e]) (thn (hi.run pins s σ H _ I h) fun xv sA hx => thn hx fun itv sB hB => ?_)
  obtain ⟨it, fp, tn, J, HB, rfl, IB, T, stB, fB, q⟩ := hB
  refine PpSet.newSet_ok (newEnv_comp ?_)
  obtain ⟨q1, q2⟩ := q sB.heap.objs.size (IB.hok.fresh (Nat.le_refl _))
  generalize eD : sB.heap.objs.size = D at q1 q2
  -- the set is laid
  generalize eC : ({ sB with heap := sB.heap.push { cls := .type "set", dict := none, data := .set #[] 0 (.fresh 0 0 (!X.w.params.followText "set-order")) } } : Shared) = sC
  have hC : sC.heap = sB.heap.push { cls := .type "set", dict := none, data := .set #[] 0 (.fresh 0 0 (!X.w.params.followText "set-order")) } := by rw [← eC]
  generalize eH : upd HB D (SetO X.w D (fun _ => false) 0) = HC at q1 q2
  have IC : Inv X pins σ HC sC := by
    rw [← eC, ← eH]
    refine IB.laid (t' := sB.toks) (fun b o e => Heap.get?_push_of_some _ e) (Nat.le_of_eq eD) (setO_new ?_)
    rw [← eD]
    exact (setR_new_at (ns := []) (Heap.get?_push_size _ rfl)).congr fun k => by simp
  have young : ∀ b ∈ fp, b < sB.heap.objs.size := fun b hb => (T.obj _ _ stB b hb).elim fun o e => Heap.lt_size e.1
  have fC : ∀ b ∈ fp, FpOk X pins HC b ∧ b < sC.heap.objs.size := fun b hb => by
    have lt := young b hb
    have nb : HC b = none := by
      rw [← eH, upd_ne (by rw [← eD]; exact Nat.ne_of_lt lt)]
      exact (fB b hb).1
    exact ⟨⟨nb, (fB b hb).2⟩, by rw [hC, Heap.size_push]; exact Nat.lt_succ_of_lt lt⟩
  have stC : tn 0 sC.heap := T.keep _ _ _ stB fun b _ o e => by rw [hC]; exact Heap.get?_push_of_some _ e
  -- the block
  have IE := block_start IC ok nd fC
  generalize eN : compEnvC sc (cellsFrom (sC.heap.objs.size + 1) sc.names (cloFrom X.env.cells sc.names [])) sC.heap.objs.size X.env = ce at IE
  have eL : ce.locals = sC.heap.objs.size := by rw [← eN]; rfl
  generalize eE : ({ sC with heap := pushCells (sC.heap.push { cls := .type "dict", data := .dict #[] }) sc.names } : Shared) = sE at IE
  have stE : tn 0 sE.heap := T.keep _ _ _ stC fun b _ o e => by rw [← eE]; exact pushCells_keeps _ _ _ _ (Heap.get?_push_of_some _ e)
  have stat : ∀ b ∈ fp, FpOk (X.blk sC HC sc ce fp) [] HC b := fun b hb =>
    ⟨(fC b hb).1.1, (IE.ok.exf b hb).1, IE.ok.exfs b hb, .inl hb, fun x c e => (IE.ok.exf b hb).2 x c e, fun p hp => by simp at hp⟩
  have back : ∀ s', Inv (X.blk sC HC sc ce fp) [] (wipe σ (own.map (·.2))) HC s' → compPost (model X.prog X.w) X.A X.xe none (EP X pins σ Q) (.ref D) sC.heap.objs.size (.ok .next) s' := fun s' IF => by
    have IG : Inv X pins σ HC s' := IC.call' (ch := fp) IF.os IF.base IF.hok IF.bare fun b hb => ⟨(fC b hb).1.2.2.2.1, (fC b hb).1.2.1, (fC b hb).1.2.2.2.2.1, (fC b hb).1.2.2.2.2.2⟩
    have nC : HC sC.heap.objs.size = none := by
      have z : HC ce.locals = none := IF.free
      rwa [eL] at z
    obtain ⟨m, hn, _⟩ := IF.loc
    have hn : s'.heap.Ns ce.locals m := hn
    rw [eL] at hn
    obtain ⟨f0, f1, f2, f3, f4, f5⟩ := IC.fpOk (Nat.le_refl _) nC
    exact ⟨m, hn, fun h'' sb => ⟨.ref D, HC, IG.turned (t' := s'.toks) (fun b o hb e => (sb.2 b hb).trans e) f0 f1 f3 f4 f5, rfl, q2⟩⟩
  have loop : codeAny (model X.prog X.w) X.A (.compLoop (.SetComp elt [⟨t0, i0, [], 0⟩, ⟨t1, i1, [], 0⟩] sc pos) 0 (.ref it) (.ref D) ce) (compPost (model X.prog X.w) X.A X.xe none (EP X pins σ Q) (.ref D) sC.heap.objs.size) sE :=
    loop_none (thnF (T.done (X.blk sC HC sc ce fp) rfl rfl rfl calm 0 [] sE _ HC (fun _ _ => False) IE stat stE q1) fun r s' hr => ⟨hr.1, back s' hr.2⟩)
  have fin := PpSet.codeAny_compStart_set loop (T.self X.A 0 _ _ _ stE loop)
  rw [← eN] at fin
  exact fin
end
end L2

set_option Elab.async false
set_option maxRecDepth 100000
set_option maxHeartbeats 4000000
set_option linter.all false
/-! tokens and what is gone over of a history: the mathematics of k13 -/
namespace K13
open PySem PySem.Spec PyProof.Rows L2
inductive Tok where
  | begin (w : Str) | answer (n : Nat) (w : Str) | rang (n : Nat) | signal (a b : Str)
  | asked (w : Str) | set | dropped (n : Nat) | noted (w : Str) | marked (w : Str) | ended (w : Str) | anew (w : Str)
namespace Tok
def head : Tok → Str
  | .begin _ => "begin" | .answer _ _ => "answer" | .rang _ => "rang" | .signal _ _ => "signal" | .asked _ => "asked" | .set => "set"
  | .dropped _ => "dropped" | .noted _ => "noted" | .marked _ => "marked" | .ended _ => "ended" | .anew _ => "anew"
def rest : Tok → List V
  | .begin w => [.str w] | .answer n w => [.int n, .str w] | .rang n => [.int n] | .signal a b => [.str a, .str b] | .asked w => [.str w] | .set => []
  | .dropped n => [.int n] | .noted w => [.str w] | .marked w => [.str w] | .ended w => [.str w] | .anew w => [.str w]
def words : Tok → List Str
  | .begin w => [w] | .answer _ w => [w] | .rang _ => [] | .signal a b => [a, b] | .asked w => [w] | .set => []
  | .dropped _ => [] | .noted w => [w] | .marked w => [w] | .ended w => [w] | .anew w => [w]
def vals (t : Tok) : List V := .str t.head :: t.rest
def outer : Tok → Bool
  | .begin _ => true | .answer _ _ => true | .rang _ => true | .signal _ _ => true | _ => false
def num? : Tok → Option Nat
  | .answer n _ => some n | .rang n => some n | .dropped n => some n | _ => none
def withN : Tok → Nat → Tok
  | .answer _ w, n => .answer n w | .rang _, n => .rang n | .dropped _, n => .dropped n | t, _ => t
def start? : Tok → Option Bool
  | .asked _ => some true | .set => some false | _ => none
def last : Tok → Bool
  | .ended _ => true | .anew _ => true | _ => false
def isBegin : Tok → Bool
  | .begin _ => true | _ => false
end Tok
structure S where
  run : List Nat
  kinds : List Bool
  ths : List Nat
  len : Nat
  fin : Bool
def s0 : S := ⟨[], [], [], 0, false⟩
def kindOk (s : S) : Tok → Bool
  | .answer n _ => s.run.contains n && s.kinds[n]? == some true
  | .rang n => s.run.contains n && s.kinds[n]? == some false
  | .dropped n => s.run.contains n
  | _ => true
def may (s : S) (t : Tok) : Bool := !s.fin && (t.isBegin == (s.len == 0) && kindOk s t)
def bt (s : S) : S := { s with ths := s.run }
def ths0 (s : S) (t : Tok) : List Nat := if t.outer then s.run else s.ths
def go (s : S) (t : Tok) : S :=
  match t.start? with
  | some k => ⟨s.run ++ [s.kinds.length], s.kinds ++ [k], ths0 s t ++ [s.kinds.length], s.len + 1, t.last⟩
  | none => match t.num? with
    | some n => ⟨s.run.erase n, s.kinds, ths0 s t, s.len + 1, t.last⟩
    | none => ⟨s.run, s.kinds, ths0 s t, s.len + 1, t.last⟩
def age (s : S) (t : Tok) : Tok := match t.num? with
  | some n => t.withN ((ths0 s t).idxOf n)
  | none => t
def byNum (s : S) (t : Tok) : Option Tok := match t.num? with
  | some a => (s.ths[a]?).map t.withN
  | none => some t
/-- a history that may be gone over -/
def valid (s : S) : List Tok → Bool
  | [] => true
  | t :: r => may s t && valid (go s t) r
def goAll (s : S) : List Tok → S
  | [] => s
  | t :: r => goAll (go s t) r
def ageAll (s : S) : List Tok → List Tok
  | [] => []
  | t :: r => age s t :: ageAll (go s t) r
/-- the turns of a flat list -/
def cutOn (acc : List (List Tok)) (t : Tok) : List (List Tok) := if t.outer then acc ++ [[t]] else acc.dropLast ++ [(acc.getLastD []) ++ [t]]
def cutAll (ts : List Tok) : List (List Tok) := ts.foldl cutOn []
/-- what is read by age -/
def wToks (first : Bool) (s : S) (h : List Tok) : List (Option Tok) → Option (S × List Tok)
  | [] => some (s, h)
  | none :: _ => none
  | some t :: r => if t.outer != first then none else match byNum s t with
    | none => none
    | some u => if may s u then wToks false (go s u) (h ++ [u]) r else none
def wWalk (strict : Bool) (s : S) (h : List Tok) : List (Option (List (Option Tok))) → Option (List Tok)
  | [] => some h
  | none :: _ => none
  | some turn :: r => if strict && turn.isEmpty then none else match wToks true (bt s) h turn with
    | none => none
    | some (s', h') => wWalk strict s' h' r
def pBack (ts : List (Option (List (Option Tok)))) : Option (List Tok) := if ts.isEmpty then none else wWalk true s0 [] ts
def lift (ts : List (List Tok)) : List (Option (List (Option Tok))) := ts.map fun t => some (t.map some)
def lBack (ts : List (List Tok)) : Option (List Tok) := match wWalk false s0 [] (lift ts) with
  | none => none
  | some h => if ts.any List.isEmpty || h.isEmpty then none else some h
/-! ### both ways to go back agree -/
theorem wToks_len {first : Bool} : ∀ {ts : List (Option Tok)} {first : Bool} {s s' : S} {h h' : List Tok}, wToks first s h ts = some (s', h') → h'.length = h.length + ts.length
  | [], _, _, _, _, _, e => by
    simp only [wToks, Option.some.injEq, Prod.mk.injEq] at e
    rw [← e.2]; rfl
  | none :: _, _, _, _, _, _, e => by simp [wToks] at e
  | some t :: r, first, s, s', h, h', e => by
    simp only [wToks] at e
    split at e
    · cases e
    · split at e
      · cases e
      · split at e
        · have := wToks_len (first := false) e
          simp only [List.length_append, List.length_cons, List.length_nil] at this ⊢
          omega
        · cases e
theorem walk_strict {ts : List (List Tok)} (he : ts.any List.isEmpty = false) : ∀ (s : S) (h : List Tok), wWalk true s h (lift ts) = wWalk false s h (lift ts) := by
  induction ts with
  | nil => intros; rfl
  | cons t r ih =>
    intro s h
    simp only [List.any_cons, Bool.or_eq_false_iff] at he
    have e1 : (t.map some).isEmpty = false := by
      cases t with
      | nil => simp at he
      | cons a b => rfl
    simp only [lift, List.map_cons, wWalk, e1, Bool.and_false, Bool.false_eq_true, if_false]
    split
    · rfl
    · exact ih he.2 _ _
theorem walk_empty {ts : List (List Tok)} (he : ts.any List.isEmpty = true) : ∀ (s : S) (h : List Tok), wWalk true s h (lift ts) = none := by
  induction ts with
  | nil => simp at he
  | cons t r ih =>
    intro s h
    cases t with
    | nil => rfl
    | cons a b =>
      have he' : r.any List.isEmpty = true := by simpa using he
      simp only [lift, List.map_cons, wWalk, List.isEmpty_cons, Bool.and_false, Bool.false_eq_true, if_false]
      split
      · rfl
      · exact ih he' _ _
theorem walk_len : ∀ {ts : List (List Tok)} {b : Bool} {s : S} {h h' : List Tok}, wWalk b s h (lift ts) = some h' → h'.length = h.length + (ts.map List.length).sum
  | [], _, _, _, _, e => by
    simp only [lift, List.map_nil, wWalk, Option.some.injEq] at e
    rw [← e]; rfl
  | t :: r, b, s, h, h', e => by
    simp only [lift, List.map_cons, wWalk] at e
    split at e
    · cases e
    · split at e
      · cases e
      · rename_i s2 h2 q
        have l1 := wToks_len (first := true) q
        have l2 := walk_len (ts := r) e
        simp only [List.length_map] at l1
        simp only [List.map_cons, List.sum_cons]
        omega
theorem pBack_lift (ts : List (List Tok)) : pBack (lift ts) = lBack ts := by
  unfold pBack lBack
  cases ts with
  | nil => rfl
  | cons t r =>
    have e0 : (lift (t :: r)).isEmpty = false := rfl
    rw [e0]
    simp only [Bool.false_eq_true, if_false]
    cases he : (t :: r).any List.isEmpty with
    | true =>
      rw [walk_empty he]
      split <;> simp
    | false =>
      rw [walk_strict he]
      cases q : wWalk false s0 [] (lift (t :: r)) with
      | none => rfl
      | some h =>
        have l := walk_len q
        have : h.isEmpty = false := by
          cases h with
          | nil =>
            cases t with
            | nil => simp at he
            | cons a b =>
              simp only [List.length_nil, List.map_cons, List.sum_cons, List.length_cons] at l
              omega
          | cons a b => rfl
        simp [this]

/-! ### what is told by age is read back -/
def cutR : List Tok → List Tok × List (List Tok)
  | [] => ([], [])
  | t :: r => if t.outer then ([], (t :: (cutR r).1) :: (cutR r).2) else (t :: (cutR r).1, (cutR r).2)
theorem foldl_cut : ∀ (ts : List Tok) (acc : List (List Tok)) (l : List Tok), ts.foldl cutOn (acc ++ [l]) = acc ++ [l ++ (cutR ts).1] ++ (cutR ts).2
  | [], acc, l => by simp [cutR]
  | t :: r, acc, l => by
    rw [List.foldl_cons]
    cases e : t.outer with
    | true =>
      have e1 : cutOn (acc ++ [l]) t = (acc ++ [l]) ++ [[t]] := by simp [cutOn, e]
      rw [e1, foldl_cut r]
      simp [cutR, e]
    | false =>
      have e1 : cutOn (acc ++ [l]) t = acc ++ [l ++ [t]] := by simp [cutOn, e]
      rw [e1, foldl_cut r]
      simp [cutR, e]
theorem cutAll_R {t : Tok} {r : List Tok} (e : t.outer = true) : cutAll (t :: r) = (cutR (t :: r)).2 := by
  have e1 : cutOn [] t = [] ++ [[t]] := by simp [cutOn, e]
  unfold cutAll
  rw [List.foldl_cons, e1, foldl_cut]
  simp [cutR, e]
/-- a state that can be: the open things are among those with an age -/
structure Good (s : S) : Prop where
  sub : ∀ n ∈ s.run, n ∈ s.ths
  srt : s.ths.Pairwise (· < ·)
  srr : s.run.Pairwise (· < ·)
  few : ∀ n ∈ s.ths, n < s.kinds.length
theorem good0 : Good s0 := ⟨by simp [s0], by simp [s0], by simp [s0], by simp [s0]⟩
theorem Good.few' {s : S} (g : Good s) : ∀ n ∈ s.run, n < s.kinds.length := fun n h => g.few n (g.sub n h)
theorem Good.bt {s : S} (g : Good s) : Good (bt s) := ⟨fun n h => h, g.srr, g.srr, g.few'⟩
theorem Good.ths0 {s : S} (g : Good s) (t : Tok) : (ths0 s t).Pairwise (· < ·) ∧ (∀ n ∈ s.run, n ∈ ths0 s t) ∧ ∀ n ∈ ths0 s t, n < s.kinds.length := by
  unfold K13.ths0
  split
  · exact ⟨g.srr, fun n h => h, g.few'⟩
  · exact ⟨g.srt, g.sub, g.few⟩
theorem Good.go {s : S} (g : Good s) (t : Tok) : Good (go s t) := by
  obtain ⟨h1, h2, h3⟩ := g.ths0 t
  unfold K13.go
  split
  · refine ⟨fun n h => ?_, ?_, ?_, fun n h => ?_⟩
    · rcases List.mem_append.mp h with h | h
      · exact List.mem_append_left _ (h2 n h)
      · exact List.mem_append_right _ h
    · refine List.pairwise_append.mpr ⟨h1, by simp, fun a ha b hb => ?_⟩
      rw [List.mem_singleton.mp hb]
      exact h3 a ha
    · refine List.pairwise_append.mpr ⟨g.srr, by simp, fun a ha b hb => ?_⟩
      rw [List.mem_singleton.mp hb]
      exact g.few' a ha
    · show n < (s.kinds ++ [_]).length
      rw [List.length_append]
      rcases List.mem_append.mp h with h | h
      · have := h3 n h
        simp; omega
      · rw [List.mem_singleton.mp h]
        simp
  · split
    · exact ⟨fun n h => h2 n (List.mem_of_mem_erase h), h1, g.srr.sublist List.erase_sublist, h3⟩
    · exact ⟨h2, h1, g.srr, h3⟩
theorem withN_num {t : Tok} {n : Nat} (e : t.num? = some n) (a : Nat) : (t.withN a).num? = some a ∧ (t.withN a).withN n = t ∧ (t.withN a).outer = t.outer := by
  cases t <;> simp_all [Tok.num?, Tok.withN, Tok.outer]
theorem age_outer (s : S) (t : Tok) : (age s t).outer = t.outer := by
  unfold age
  split
  · rename_i n e
    exact (withN_num e _).2.2
  · rfl
theorem kind_run {s : S} {t : Tok} {n : Nat} (e : t.num? = some n) (k : kindOk s t = true) : n ∈ s.run := by
  cases t <;> simp_all [Tok.num?, kindOk]
theorem may_kind {s : S} {t : Tok} (h : may s t = true) : kindOk s t = true ∧ s.fin = false ∧ t.isBegin = (s.len == 0) := by
  simp only [may, Bool.and_eq_true, Bool.not_eq_true', beq_iff_eq] at h
  exact ⟨h.2.2, h.1, h.2.1⟩
theorem get_idx {l : List Nat} {n : Nat} (h : n ∈ l) : l[l.idxOf n]? = some n := by
  have hl := List.idxOf_lt_length_of_mem h
  rw [List.getElem?_eq_getElem hl, List.getElem_idxOf hl]
theorem byNum_age {s : S} {t : Tok} (g : Good s) (m : may s t = true) (ht : ths0 s t = s.ths) : byNum s (age s t) = some t := by
  unfold age
  split
  · rename_i n e
    obtain ⟨h1, h2, _⟩ := withN_num e ((ths0 s t).idxOf n)
    unfold byNum
    rw [h1]
    show (s.ths[(ths0 s t).idxOf n]?).map _ = _
    rw [ht, get_idx (g.sub n (kind_run e (may_kind m).1)), Option.map_some]
    rw [ht] at h2
    rw [h2]
  · rename_i e
    unfold byNum
    rw [e]
theorem may_bt (s : S) (t : Tok) : may (bt s) t = may s t := by
  cases t <;> rfl
theorem go_bt {s : S} {t : Tok} (e : t.outer = true) : go (bt s) t = go s t := by
  unfold go ths0 bt
  simp only [e, if_true]
theorem back_age : ∀ (h : List Tok) (s : S) (hh : List Tok), Good s → valid s h = true →
    ∃ s' h', wToks false s hh ((cutR (ageAll s h)).1.map some) = some (s', h') ∧ wWalk true s' h' (lift (cutR (ageAll s h)).2) = some (hh ++ h)
  | [], s, hh, _, _ => ⟨s, hh, rfl, by simp [ageAll, cutR, lift, wWalk]⟩
  | t :: r, s, hh, g, v => by
    simp only [valid, Bool.and_eq_true] at v
    obtain ⟨m, v⟩ := v
    obtain ⟨s', h', e1, e2⟩ := back_age r (go s t) (hh ++ [t]) (g.go t) v
    have eo := age_outer s t
    cases o : t.outer with
    | false =>
      rw [o] at eo
      have ht : ths0 s t = s.ths := by simp [ths0, o]
      refine ⟨s', h', ?_, ?_⟩
      · simp only [ageAll, cutR, eo, Bool.false_eq_true, if_false, List.map_cons, wToks, byNum_age g m ht, m, if_true, bne_self_eq_false]
        exact e1
      · simp only [ageAll, cutR, eo, Bool.false_eq_true, if_false]
        rw [e2]
        simp
    | true =>
      rw [o] at eo
      have ht : ths0 (bt s) t = (bt s).ths := by simp [ths0, o, bt]
      have ea : age s t = age (bt s) t := by
        unfold age ths0
        simp [o, bt]
      refine ⟨s, hh, ?_, ?_⟩
      · simp only [ageAll, cutR, eo, if_true, List.map_nil, wToks]
      · simp only [ageAll, cutR, eo, if_true, lift, List.map_cons, wWalk, List.isEmpty_cons, Bool.and_false, Bool.false_eq_true, if_false, wToks, bne_self_eq_false]
        rw [ea, byNum_age g.bt (by rw [may_bt]; exact m) ht]
        simp only [may_bt, m, if_true, go_bt o]
        rw [e1]
        simp only [lift] at e2
        exact e2.trans (by simp)
def ageTurns (s : S) : List (List Tok) → List (List Tok)
  | [] => []
  | t :: r => ageAll s t :: ageTurns (goAll s t) r
theorem age_cut : ∀ (h : List Tok) (s : S), cutR (ageAll s h) = (ageAll s (cutR h).1, ageTurns (goAll s (cutR h).1) (cutR h).2)
  | [], s => rfl
  | t :: r, s => by
    have eo := age_outer s t
    have ih := age_cut r (go s t)
    cases o : t.outer with
    | false =>
      rw [o] at eo
      simp only [ageAll, cutR, eo, o, Bool.false_eq_true, if_false, ih, goAll]
    | true =>
      rw [o] at eo
      simp only [ageAll, cutR, eo, o, if_true, ih, goAll, ageTurns]
theorem begin_outer {t : Tok} {r : List Tok} (v : valid s0 (t :: r) = true) : t.outer = true := by
  simp only [valid, Bool.and_eq_true] at v
  have := (may_kind v.1).2.2
  cases t <;> simp_all [Tok.isBegin, Tok.outer, s0]
theorem round_trip {h : List Tok} (ne : h ≠ []) (v : valid s0 h = true) : pBack (lift (cutAll (ageAll s0 h))) = some h := by
  cases h with
  | nil => exact absurd rfl ne
  | cons t r =>
    have o := begin_outer v
    have eo := age_outer s0 t
    rw [o] at eo
    obtain ⟨s', h', e1, e2⟩ := back_age (t :: r) s0 [] good0 v
    have e3 : cutAll (ageAll s0 (t :: r)) = (cutR (ageAll s0 (t :: r))).2 := cutAll_R (t := age s0 t) eo
    have e4 : (cutR (ageAll s0 (t :: r))).1 = [] := by simp [ageAll, cutR, eo]
    rw [e4] at e1
    simp only [List.map_nil, wToks, Option.some.injEq, Prod.mk.injEq] at e1
    rw [← e1.1, ← e1.2] at e2
    unfold pBack
    rw [e3]
    have e5 : (lift (cutR (ageAll s0 (t :: r))).2).isEmpty = false := by simp [ageAll, cutR, eo, lift]
    rw [e5]
    exact e2
theorem aged_eq {h : List Tok} (ne : h ≠ []) (v : valid s0 h = true) : ageTurns s0 (cutAll h) = cutAll (ageAll s0 h) := by
  cases h with
  | nil => exact absurd rfl ne
  | cons t r =>
    have o := begin_outer v
    have eo := age_outer s0 t
    rw [o] at eo
    have e3 : cutAll (ageAll s0 (t :: r)) = (cutR (ageAll s0 (t :: r))).2 := cutAll_R (t := age s0 t) eo
    rw [e3, age_cut, cutAll_R o]
    have e4 : (cutR (t :: r)).1 = [] := by simp [cutR, o]
    rw [e4]
    rfl
end K13

set_option Elab.async false
set_option maxRecDepth 100000
set_option maxHeartbeats 4000000
set_option linter.all false
namespace L2
open PySem PySem.Spec PyProof.Rows
/-! ### raise C(e, ..), C an own error over LookupError with its own __init__ -/
def tMkE (C : Addr) (fns : List Str) (ta : TA) : St → Hp → XK → Prop := fun σ H Q => ta σ H fun vs H1 => vs.length = fns.length ∧
  ∀ d H', H1 d = none → H' d = some (.xd (fns.zip vs).reverse) → (∀ b, b ≠ d → H' b = H1 b) → Q (.ref C) (some d) H'
section
variable {X : Cx} {CX : CXT} {k : Nat} {C : Addr} {ps fns : List Str} {x : Str} {p pos : Pos} {e : Expr} {es : List Expr} {ta : TA}
theorem pmk_errL (c : ErrDef X.prog X.w X.K X.mg X.base CX k x C ps fns) (hr : Room (k + 1) X.A) (hg : Gl X x) (hx : Passes CX X E0) (ha : PA X (e :: es) ta)
    (hdb : (x == ("__debug__" : Str)) = false := by decide) (he : starEach (e :: es) X.env = (false, eval e X.env) :: starEach es X.env := by rfl)
    (hpl : (backTo pos (starEach es X.env)).any (·.1) = false := by rfl) : PMk X (.Call (.Name x p) (e :: es) [] pos) (tMkE C fns ta) := by
  obtain ⟨fI, fd, hm, T, iC, tI, hb, _, F, few, hp⟩ := c.ex
  intro pins s σ H Q I h
  refine wpAny_Call_Name_kw (ld_glob I hg hm ?_ hdb)
  refine PySem.W.callWith_K (h₀ := X.base) I.ok.mod.kin T.kC (thn (ha.run pos pins s σ H _ I h) fun us s1 ⟨vs, H1, I1, r, hl, q⟩ => ⟨I1.kIn, ?_⟩) he hpl
  have lu : us.length = fns.length := r.length.symm.trans hl
  obtain ⟨nm, N, qn, bs, bm, hdct, sn, sub, ab, col, dd, k0, k1, k2, k3, k5, hC, hT⟩ := PySem.W.excInit_of I1.kIn T.ini
  show wpAny _ _ (call (.ref C) us) _ _ _
  obtain ⟨hp0, g, dr, tk, os⟩ := s1
  have hsz : hp0.objs.size ≤ hp0.objs.size + 1 := Nat.le_succ _
  have hn : H1 (hp0.objs.size + 1) = none := I1.hok.fresh hsz
  have kk : ∀ b o, hp0.get? b = some o → ((hp0.push (PySem.W.kdv_tup us)).push (PySem.HandSPX.excO C hp0.objs.size)).get? b = some o := fun b o z => Heap.get?_push_of_some _ (Heap.get?_push_of_some _ z)
  have hget : ((hp0.push (PySem.W.kdv_tup us)).push (PySem.HandSPX.excO C hp0.objs.size)).get? (hp0.objs.size + 1) = some (PySem.HandSPX.excO C hp0.objs.size) := by heap_get
  have J : Inv X pins σ (upd H1 (hp0.objs.size + 1) (exo (hp0.objs.size + 1) C none)) ⟨(hp0.push (PySem.W.kdv_tup us)).push (PySem.HandSPX.excO C hp0.objs.size), g, dr, tk, os⟩ :=
    I1.laid (t' := tk) kk hsz (exo_ok hget)
  have sp : spErr C fns (.ref (hp0.objs.size + 1) :: vs) (upd H1 (hp0.objs.size + 1) (exo (hp0.objs.size + 1) C none)) (fun v H2 => v = .non ∧ ∃ d, H1 d = none ∧ H2 d = some (exd d (fns.zip vs).reverse) ∧
      H2 (hp0.objs.size + 1) = some (exo (hp0.objs.size + 1) C (some d)) ∧ d ≠ hp0.objs.size + 1 ∧ ∀ b, b ≠ hp0.objs.size + 1 → b ≠ d → H2 b = H1 b) E0 := by
    refine ⟨_, vs, rfl, hl, upd_same, fun dx H' nd ne e1 e2 e3 => ⟨rfl, dx, ?_, e1, e2, ne, fun b h1 h2 => ?_⟩⟩
    · rw [upd_ne ne] at nd
      exact nd
    · rw [e3 b h1 h2, upd_ne h1]
  have r2 : Vals (V.ref (hp0.objs.size + 1) :: vs) (Value.ref (hp0.objs.size + 1) :: us) := .cons rfl r
  have hbb : ∀ s0 : Shared, X.K.In s0.heap → BindsTo s0 fd ⟨Value.ref (hp0.objs.size + 1) :: us, []⟩ (ps.zip (Value.ref (hp0.objs.size + 1) :: us)) := fun s0 k0 => by
    have b := hb s0 (Value.ref (hp0.objs.size + 1) :: us) k0 (by rw [List.append_nil, List.length_cons, lu, hp])
    rw [List.append_nil] at b
    exact b
  refine wpAny_call (call_kw PySem.F.excBase_LookupError hT hC (PySem.W.looks_findIn I1.kIn iC) (fun self => PySem.W.bind_fn I1.kIn self tI) (by show us.length ≤ sizeLine; rw [lu, sizeLine_eq]; omega)
    (codeAny_mono (F.run _ X.stack _ _ ⟨Value.ref (hp0.objs.size + 1) :: us, []⟩ (Value.ref (hp0.objs.size + 1) :: us) _ _ E0 (hr.make C us []) (J.env0.make C us []) (hbb _ J.kIn) r2 sp) fun r s' hq' => ?_))
  cases r with
  | error er => exact hx pins σ _ _ er s' J hq'
  | ok fl =>
    cases fl with
    | ret u =>
      obtain ⟨v, H2, os2, bare2, un2, hok2, rv, ev, d, nd, ed, ea, dne, oth⟩ := hq'
      subst ev
      obtain ⟨h2, g2, d2, t2, os'⟩ := s'
      refine ⟨rv, mk_end (raises_own T.exC T.tyC) I1 hsz kk un2 hok2 os2 bare2 ea ed nd (q d _ nd upd_same fun b hb2 => ?_)⟩
      rw [upd_ne hb2]
      by_cases z : b = hp0.objs.size + 1
      · rw [z, del_same, hn]
      · rw [del_ne z, oth b z hb2]
    | next => exact False.elim hq'
    | brk => exact False.elim hq'
    | cont => exact False.elim hq'
end
/-! ### a method of the module's class by its name -/
structure MDef (P : Program) (w : World) (K : PySem.W.Frag) (mg : Str → Option Value) (base : Heap) (CX : CXT) (k : Nat) (C : Addr) (m : Str) (ps : List Str) (sp : Sp) : Prop where
  cl : Cls K C
  ex : ∃ (f : Addr) (fd : FuncData), Meth K C m f ∧ Binds K fd ps [] ∧ FnOk P w K mg base CX k f fd ps sp
section
variable {X : Cx} {CX : CXT} {k : Nat} {C : Addr} {ps : List Str} {sp : Sp} {E : XK} {m : Str} {o e : Expr} {es : List Expr} {to : TE} {t : TA} {apos pos : Pos}
theorem pe_mth {pl : Sem Bool} (c : MDef X.prog X.w X.K X.mg X.base CX k C m ps sp) (hr : Room k X.A) (hx : Passes CX X E) (ho : PE X o to) (ha : PA X (e :: es) t)
    (hst : starEach (e :: es) X.env = (false, eval e X.env) :: starEach es X.env := by rfl) (hpl : (backTo pos (starEach es X.env)).any (·.1) = false := by rfl)
    (ht : eval (.Call (.Attribute o m apos) (e :: es) [] pos) X.env = (do
      let ov ← eval o X.env
      standAt apos.atName
      let (f, first) ← holding [ov] (getMethod ov m pl)
      callWith pos f first (backTo pos (starEach (e :: es) X.env)) (backToKw pos (keywordEach [] X.env))) := by rfl) :
    PE X (.Call (.Attribute o m apos) (e :: es) [] pos) (tMeth C m sp [] E to t) := by
  obtain ⟨f, fd, hm, hb, F⟩ := c.ex
  exact pe_meth ho c.cl hm F hr hb .nil hx ha hst hpl ht
theorem pe_mth0 {pl : Sem Bool} (c : MDef X.prog X.w X.K X.mg X.base CX k C m ps sp) (hr : Room k X.A) (hx : Passes CX X E) (ho : PE X o to)
    (ht : eval (.Call (.Attribute o m apos) [] [] pos) X.env = (do
      let ov ← eval o X.env
      standAt apos.atName
      let (f, first) ← holding [ov] (getMethod ov m pl)
      callWith pos f first (backTo pos (starEach [] X.env)) (backToKw pos (keywordEach [] X.env))) := by rfl) :
    PE X (.Call (.Attribute o m apos) [] [] pos) (tMeth C m sp [] E to tNil) := by
  obtain ⟨f, fd, hm, hb, F⟩ := c.ex
  exact pe_meth0 ho c.cl hm F hr hb .nil hx ht
end
/-! ### written dicts with text keys -/
def KD (K : PySem.W.Frag) (w : World) (d : Addr) : Prop := ∃ es n, KDict K w d es n
section
variable {X : Cx} {d : Addr}
def rInKd (K : PySem.W.Frag) (d : Addr) : R2 := fun x y H Q => ∃ (z : Str) (r : Option Value), x = .str z ∧ y = .ref d ∧ PySem.W.nsIn K d z = some r ∧ Q (.bl r.isSome) H
def rNotInKd (K : PySem.W.Frag) (d : Addr) : R2 := fun x y H Q => ∃ (z : Str) (r : Option Value), x = .str z ∧ y = .ref d ∧ PySem.W.nsIn K d z = some r ∧ Q (.bl (!r.isSome)) H
theorem op_in_kd' (D : KD X.K X.w d) : OpR X (compareOp .In) (rInKd X.K d) := by
  obtain ⟨es, n, D⟩ := D
  exact op_in_kd D
theorem op_notIn_kd' (D : KD X.K X.w d) : OpR X (compareOp .NotIn) (rNotInKd X.K d) := by
  obtain ⟨es, n, D⟩ := D
  exact op_notIn_kd D
theorem kdct {K : PySem.W.Frag} {w : World} {d : Addr} {z : Str} {u : Value} {v : V} (D : KD K w d) (e : PySem.W.nsIn K d z = some (some u)) (r : RelV v u) : KDct K w d z v := by
  obtain ⟨es, n, D⟩ := D
  exact ⟨es, n, u, D.at_, D.lit, e, r⟩
end
theorem walk_zipT {K : PySem.W.Frag} {a b : Addr} {xs ys : List V} {n : Nat} (hn : n = min xs.length ys.length) : Walk (RZ.ItzT K a b) n (fun H => SqT K H a xs ∧ SqT K H b ys) (YPair (fun i => xs[i]?) (fun i => ys[i]?)) := by
  subst hn
  refine ⟨fun i _ hi q => ?_, fun _ q => ⟨xs, ys, q.1, q.2, by omega⟩, fun i H v H' _ q y => ?_⟩
  · have h1 : i < xs.length := by omega
    have h2 : i < ys.length := by omega
    exact ⟨xs, ys, xs[i], ys[i], q.1, q.2, by simp [h1], by simp [h2]⟩
  · obtain ⟨T, x, z, h1, h2, h3, h4, h5⟩ := y
    exact ⟨T, x, z, h1, h2, h3, h4 xs q.1, h5 ys q.2⟩
end L2

set_option Elab.async false
set_option maxRecDepth 100000
set_option maxHeartbeats 4000000
set_option linter.all false
namespace L2
open PySem PySem.Spec PyProof.Rows
section
variable {X : Cx} {CX : CXT} {k : Nat} {C : Addr} {ps : List Str} {sp : Sp} {E : XK} {W : WX} {x : Str} {e : Expr} {es : List Expr} {t : TA} {p pos : Pos}
theorem pe_fnS (c : Def X.prog X.w X.K X.mg X.base (L2.CX X.prog X.w) k x ps sp) (hr : Room k X.A) (hg : Gl X x) (tk : Takes X W) (ha : PA X (e :: es) t)
    (hdb : (x == ("__debug__" : Str)) = false := by decide) (he : starEach (e :: es) X.env = (false, eval e X.env) :: starEach es X.env := by rfl)
    (hpl : (backTo pos (starEach es X.env)).any (·.1) = false := by rfl) : PE X (.Call (.Name x p) (e :: es) [] pos) (tCallS sp (WE W) t) := by
  obtain ⟨f, fd, hm, hk, hb, F⟩ := c.ex
  exact pe_callS F hr hg hm hk hb (fun σ => passAt tk σ) ha hdb he hpl
end
end L2
namespace OR
open PySem PySem.Spec PyProof.Rows L2 TS2
/-! ### lists, pair by pair -/
inductive All2 {α β : Type} (R : α → β → Prop) : List α → List β → Prop where
  | nil : All2 R [] []
  | cons {x : α} {y : β} {xs : List α} {ys : List β} (h : R x y) (t : All2 R xs ys) : All2 R (x :: xs) (y :: ys)
namespace All2
variable {α β : Type} {R R' : α → β → Prop}
theorem len {xs : List α} {ys : List β} (h : All2 R xs ys) : xs.length = ys.length := by
  induction h with
  | nil => rfl
  | cons _ _ ih => simp [ih]
theorem at_ {xs : List α} {ys : List β} (h : All2 R xs ys) : ∀ {i : Nat} {x : α} {y : β}, xs[i]? = some x → ys[i]? = some y → R x y := by
  induction h with
  | nil => intro i x y hx; simp at hx
  | cons h t ih =>
    intro i x y hx hy
    cases i with
    | zero =>
      cases Option.some.inj hx
      cases Option.some.inj hy
      exact h
    | succ i => exact ih hx hy
theorem imp {xs : List α} {ys : List β} (h : All2 R xs ys) (f : ∀ x y, x ∈ xs → R x y → R' x y) : All2 R' xs ys := by
  induction h with
  | nil => exact .nil
  | cons h t ih => exact .cons (f _ _ List.mem_cons_self h) (ih fun x y hx => f x y (List.mem_cons_of_mem _ hx))
theorem app {xs xs' : List α} {ys ys' : List β} (h : All2 R xs ys) (h' : All2 R xs' ys') : All2 R (xs ++ xs') (ys ++ ys') := by
  induction h with
  | nil => exact h'
  | cons h _ ih => exact .cons h ih
theorem one {x : α} {y : β} (h : R x y) : All2 R [x] [y] := .cons h .nil
theorem take {xs : List α} {ys : List β} (h : All2 R xs ys) : ∀ n, All2 R (xs.take n) (ys.take n) := by
  induction h with
  | nil => intro n; simp; exact .nil
  | cons h _ ih =>
    intro n
    cases n with
    | zero => exact .nil
    | succ n => exact .cons h (ih n)
theorem other {xs : List α} {ys : List β} (h : All2 R xs ys) {i : Nat} {y : β} (hy : ys[i]? = some y) : ∃ x, xs[i]? = some x ∧ R x y := by
  have lt : i < ys.length := (List.getElem?_eq_some_iff.mp hy).1
  have e : xs[i]? = some (xs[i]'(by rw [h.len]; exact lt)) := List.getElem?_eq_getElem _
  exact ⟨_, e, h.at_ e hy⟩
theorem right {xs : List α} {ys : List β} (h : All2 R xs ys) {i : Nat} {x : α} (hx : xs[i]? = some x) : ∃ y, ys[i]? = some y ∧ R x y := by
  have lt : i < xs.length := (List.getElem?_eq_some_iff.mp hx).1
  have e : ys[i]? = some (ys[i]'(by rw [← h.len]; exact lt)) := List.getElem?_eq_getElem _
  exact ⟨_, e, h.at_ hx e⟩
end All2
theorem take_more {α : Type} {l : List α} {i : Nat} {x : α} (h : l[i]? = some x) : l.take (i + 1) = l.take i ++ [x] := by
  rw [List.take_succ, h]
  rfl
/-! ### rows as trees, d deep at most -/
inductive Pt (R : Type) where
  | word (s : Str) | words (l : List Str) | rows (l : List R) | sides (l : List (List R))
def Row : Nat → Type
  | 0 => Empty
  | d + 1 => Str × List (Pt (Row d))
def ftab : List (Str × List Str) := [("ask", ["ask", "label"]), ("timer", ["label"]), ("await", ["label", "slot"]), ("first", ["labels", "slot"]), ("drop", ["label"]), ("take", ["signal", "slot"]), ("note", ["slot", "words"]), ("put", ["slot", "word"]), ("if", ["source", "word", "rows", "rows"]), ("loop", ["rows"]), ("leave", []), ("part", ["rows"]), ("both", ["sides"]), ("gate", ["gate", "rows", "rows"]), ("past", ["gate", "rows"]), ("edit", ["edit", "rows", "rows"]), ("end", ["source"]), ("anew", ["source"])]
section
variable (K : PySem.W.Frag) (H : Hp)
def LstAt {R : Type} (RA : R → V → Prop) (l : List R) (v : V) : Prop := ∃ a xs, v = .ref a ∧ H a = some (.lst xs) ∧ All2 RA l xs
def PtAt {R : Type} (RA : R → V → Prop) : Pt R → V → Prop
  | .word s, v => v = .str s
  | .words l, v => ∃ a, v = .ref a ∧ SqT K H a (l.map V.str)
  | .rows l, v => LstAt H RA l v
  | .sides ls, v => ∃ a vs, v = .ref a ∧ SqT K H a vs ∧ All2 (LstAt H RA) ls vs
def RowAt : (d : Nat) → Row d → V → Prop
  | 0, r, _ => nomatch r
  | d + 1, r, v => ∃ a vs, v = .ref a ∧ SqT K H a (.str r.1 :: vs) ∧ All2 (PtAt K H (RowAt d)) r.2 vs
end
/-- the lists of rows in a row's parts -/
def kidsP {R : Type} : Pt R → List (List R)
  | .rows l => [l]
  | .sides ls => ls
  | _ => []
def kids {R : Type} (ps : List (Pt R)) : List (List R) := (ps.map kidsP).flatten
/-- the kinds of the parts are those of the forms -/
def kindOk {R : Type} (f : Str) : Pt R → Bool
  | .word _ => f ≠ "rows" && f ≠ "sides" && f ≠ "labels" && f ≠ "words"
  | .words _ => f == "labels" || f == "words"
  | .rows _ => f == "rows"
  | .sides _ => f == "sides"
def KindsOk {R : Type} (fs : List Str) (ps : List (Pt R)) : Prop := All2 (fun f p => kindOk f p = true) fs ps
/-- the plain words of the parts whose forms are among the named ones -/
def wordsP {R : Type} : Pt R → List Str
  | .word s => [s]
  | .words l => l
  | _ => []
def named {R : Type} (which : List Str) (fs : List Str) (ps : List (Pt R)) : List Str := ((fs.zip ps).map fun x => if x.1 ∈ which then wordsP x.2 else []).flatten
/-- all but the objects at C stands -/
def Kp (C : Addr → Prop) (H H' : Hp) : Prop := ∀ b o, H b = some o → ¬ C b → H' b = some o
def Sep (H0 : Hp) (C : Addr → Prop) : Prop := ∀ b, C b → H0 b = none
theorem Kp.refl {C : Addr → Prop} (H : Hp) : Kp C H H := fun _ _ h _ => h
theorem Kp.trans {C : Addr → Prop} {H H1 H2 : Hp} (a : Kp C H H1) (b : Kp C H1 H2) : Kp C H H2 := fun c o h n => b c o (a c o h n) n
theorem Kp.of {C : Addr → Prop} {H H' : Hp} (s : Same H H') : Kp C H H' := fun b o h _ => s b o h
theorem Kp.base {C : Addr → Prop} {H0 H H' : Hp} (s : Same H0 H) (k : Kp C H H') (n : Sep H0 C) : Same H0 H' := fun b o h => k b o (s b o h) fun c => by rw [n b c] at h; cases h
theorem Kp.put {C : Addr → Prop} {H : Hp} {a : Addr} {o : HO} (h : C a) : Kp C H (upd H a o) := fun b u e n => by rw [upd_ne (fun z : b = a => n (z.symm ▸ h))]; exact e
theorem Kp.mono {C C' : Addr → Prop} {H H' : Hp} (k : Kp C H H') (h : ∀ b, C b → C' b) : Kp C' H H' := fun b o e n => k b o e fun c => n (h b c)
end OR

set_option Elab.async false
set_option maxRecDepth 100000
set_option maxHeartbeats 4000000
set_option linter.all false
namespace OR
open PySem PySem.Spec PyProof.Rows L2
def top (i : Nat) : Stmt := PySem.Challenge.pw_openruns_k18_program_text.main.body.getD i (.Pass ⟨0, 0, 0, 0⟩)
abbrev FnP (K : PySem.W.Frag) (x qual : Str) (st : Stmt) (f : Addr) (fd : FuncData) : Prop := FunD K x qual (defArgs st) (defBody st) (defScope st) [] [] f fd
abbrev s_lists_of : Stmt := top 10
abbrev n_lists_of : List Str := ["row", "lists", "form", "part"]
abbrev p_lists_of : List Str := ["row"]
theorem sc_lists_of : FnScope n_lists_of p_lists_of (defScope s_lists_of) := ⟨rfl, rfl, rfl, by decide +kernel, rfl, by decide +kernel, by decide +kernel⟩
abbrev s_with_lists : Stmt := top 11
abbrev n_with_lists : List Str := ["row", "lists"]
abbrev p_with_lists : List Str := ["row", "lists"]
theorem sc_with_lists : FnScope n_with_lists p_with_lists (defScope s_with_lists) := ⟨rfl, rfl, rfl, by decide +kernel, rfl, by decide +kernel, by decide +kernel⟩
abbrev s_words_named : Stmt := top 12
abbrev n_words_named : List Str := ["row", "forms", "named", "form", "part"]
abbrev p_words_named : List Str := ["row", "forms"]
theorem sc_words_named : FnScope n_words_named p_words_named (defScope s_words_named) := ⟨rfl, rfl, rfl, by decide +kernel, rfl, by decide +kernel, by decide +kernel⟩
abbrev s_copied : Stmt := top 13
abbrev n_copied : List Str := ["rows", "row", "inner"]
abbrev p_copied : List Str := ["rows"]
theorem sc_copied : FnScope n_copied p_copied (defScope s_copied) := ⟨rfl, rfl, rfl, by decide +kernel, rfl, by decide +kernel, by decide +kernel⟩
abbrev s_is_word : Stmt := top 16
abbrev n_is_word : List Str := ["value", "letter"]
abbrev p_is_word : List Str := ["value"]
theorem sc_is_word : FnScope n_is_word p_is_word (defScope s_is_word) := ⟨rfl, rfl, rfl, by decide +kernel, rfl, by decide +kernel, by decide +kernel⟩
abbrev s_is_integer : Stmt := top 17
abbrev n_is_integer : List Str := ["value"]
abbrev p_is_integer : List Str := ["value"]
theorem sc_is_integer : FnScope n_is_integer p_is_integer (defScope s_is_integer) := ⟨rfl, rfl, rfl, by decide +kernel, rfl, by decide +kernel, by decide +kernel⟩
abbrev s_are_words : Stmt := top 18
abbrev n_are_words : List Str := ["value", "most", "word"]
abbrev p_are_words : List Str := ["value", "most"]
theorem sc_are_words : FnScope n_are_words p_are_words (defScope s_are_words) := ⟨rfl, rfl, rfl, by decide +kernel, rfl, by decide +kernel, by decide +kernel⟩
abbrev s_RowCheck___init__ : Stmt := inClass (top 22) 0
abbrev n_RowCheck___init__ : List Str := ["self", "ask_table", "signal_table", "with_edits"]
abbrev p_RowCheck___init__ : List Str := ["self", "ask_table", "signal_table", "with_edits"]
theorem sc_RowCheck___init__ : FnScope n_RowCheck___init__ p_RowCheck___init__ (defScope s_RowCheck___init__) := ⟨rfl, rfl, rfl, by decide +kernel, rfl, by decide +kernel, by decide +kernel⟩
abbrev s_RowCheck_check_rows : Stmt := inClass (top 22) 1
abbrev n_RowCheck_check_rows : List Str := ["self", "rows"]
abbrev p_RowCheck_check_rows : List Str := ["self", "rows"]
theorem sc_RowCheck_check_rows : FnScope n_RowCheck_check_rows p_RowCheck_check_rows (defScope s_RowCheck_check_rows) := ⟨rfl, rfl, rfl, by decide +kernel, rfl, by decide +kernel, by decide +kernel⟩
abbrev s_RowCheck_check_list : Stmt := inClass (top 22) 2
abbrev n_RowCheck_check_list : List Str := ["self", "rows", "prefix", "in_loop", "number", "row", "path", "inner_in_loop", "place", "inner"]
abbrev p_RowCheck_check_list : List Str := ["self", "rows", "prefix", "in_loop"]
theorem sc_RowCheck_check_list : FnScope n_RowCheck_check_list p_RowCheck_check_list (defScope s_RowCheck_check_list) := ⟨rfl, rfl, rfl, by decide +kernel, rfl, by decide +kernel, by decide +kernel⟩
abbrev s_RowCheck_has_form : Stmt := inClass (top 22) 3
abbrev n_RowCheck_has_form : List Str := ["self", "row", "forms", "form", "part"]
abbrev p_RowCheck_has_form : List Str := ["self", "row"]
theorem sc_RowCheck_has_form : FnScope n_RowCheck_has_form p_RowCheck_has_form (defScope s_RowCheck_has_form) := ⟨rfl, rfl, rfl, by decide +kernel, rfl, by decide +kernel, by decide +kernel⟩
abbrev s_RowCheck_fits : Stmt := inClass (top 22) 4
abbrev n_RowCheck_fits : List Str := ["self", "form", "part"]
abbrev p_RowCheck_fits : List Str := ["self", "form", "part"]
theorem sc_RowCheck_fits : FnScope n_RowCheck_fits p_RowCheck_fits (defScope s_RowCheck_fits) := ⟨rfl, rfl, rfl, by decide +kernel, rfl, by decide +kernel, by decide +kernel⟩
abbrev s_RowCheck_is_new : Stmt := inClass (top 22) 5
abbrev n_RowCheck_is_new : List Str := ["self", "row", "forms", "is_free"]
abbrev p_RowCheck_is_new : List Str := ["self", "row"]
theorem sc_RowCheck_is_new : FnScope n_RowCheck_is_new p_RowCheck_is_new (defScope s_RowCheck_is_new) := ⟨rfl, rfl, rfl, by decide +kernel, rfl, by decide +kernel, by decide +kernel⟩
abbrev s_are_sides : Stmt := top 23
abbrev n_are_sides : List Str := ["part", "side"]
abbrev p_are_sides : List Str := ["part"]
theorem sc_are_sides : FnScope n_are_sides p_are_sides (defScope s_are_sides) := ⟨rfl, rfl, rfl, by decide +kernel, rfl, by decide +kernel, by decide +kernel⟩
abbrev s_may_stand : Stmt := top 24
abbrev n_may_stand : List Str := ["row", "path", "in_loop", "depth"]
abbrev p_may_stand : List Str := ["row", "path", "in_loop"]
theorem sc_may_stand : FnScope n_may_stand p_may_stand (defScope s_may_stand) := ⟨rfl, rfl, rfl, by decide +kernel, rfl, by decide +kernel, by decide +kernel⟩
abbrev s_Plan___init__ : Stmt := inClass (top 28) 0
abbrev n_Plan___init__ : List Str := ["self", "rows", "number", "path"]
abbrev p_Plan___init__ : List Str := ["self", "rows"]
theorem sc_Plan___init__ : FnScope n_Plan___init__ p_Plan___init__ (defScope s_Plan___init__) := ⟨rfl, rfl, rfl, by decide +kernel, rfl, by decide +kernel, by decide +kernel⟩
abbrev s_Plan_lay_list : Stmt := inClass (top 28) 1
abbrev n_Plan_lay_list : List Str := ["self", "rows", "prefix", "end", "exit_place", "number", "row", "behind"]
abbrev p_Plan_lay_list : List Str := ["self", "rows", "prefix", "end", "exit_place"]
theorem sc_Plan_lay_list : FnScope n_Plan_lay_list p_Plan_lay_list (defScope s_Plan_lay_list) := ⟨rfl, rfl, rfl, by decide +kernel, rfl, by decide +kernel, by decide +kernel⟩
abbrev s_Plan_lay_row : Stmt := inClass (top 28) 2
abbrev n_Plan_lay_row : List Str := ["self", "row", "path", "behind", "exit_place", "here", "place", "inner", "end", "first_place"]
abbrev p_Plan_lay_row : List Str := ["self", "row", "path", "behind", "exit_place"]
theorem sc_Plan_lay_row : FnScope n_Plan_lay_row p_Plan_lay_row (defScope s_Plan_lay_row) := ⟨rfl, rfl, rfl, by decide +kernel, rfl, by decide +kernel, by decide +kernel⟩
abbrev s_size_of : Stmt := top 29
abbrev n_size_of : List Str := ["row", "rows", "inner"]
abbrev p_size_of : List Str := ["row"]
theorem sc_size_of : FnScope n_size_of p_size_of (defScope s_size_of) := ⟨rfl, rfl, rfl, by decide +kernel, rfl, by decide +kernel, by decide +kernel⟩
abbrev s_end_within : Stmt := top 30
abbrev n_end_within : List Str := ["row", "here", "behind"]
abbrev p_end_within : List Str := ["row", "here", "behind"]
theorem sc_end_within : FnScope n_end_within p_end_within (defScope s_end_within) := ⟨rfl, rfl, rfl, by decide +kernel, rfl, by decide +kernel, by decide +kernel⟩
abbrev s_Draft___init__ : Stmt := inClass (top 42) 0
abbrev n_Draft___init__ : List Str := ["self", "rows", "asks", "signals", "inputs", "with_edits"]
abbrev p_Draft___init__ : List Str := ["self", "rows", "asks", "signals", "inputs", "with_edits"]
theorem sc_Draft___init__ : FnScope n_Draft___init__ p_Draft___init__ (defScope s_Draft___init__) := ⟨rfl, rfl, rfl, by decide +kernel, rfl, by decide +kernel, by decide +kernel⟩
abbrev s_checked_table : Stmt := top 43
abbrev n_checked_table : List Str := ["value", "part", "most", "name", "entry"]
abbrev p_checked_table : List Str := ["value", "part", "most"]
theorem sc_checked_table : FnScope n_checked_table p_checked_table (defScope s_checked_table) := ⟨rfl, rfl, rfl, by decide +kernel, rfl, by decide +kernel, by decide +kernel⟩
abbrev s_is_entry : Stmt := top 44
abbrev n_is_entry : List Str := ["entry", "part", "room", "words"]
abbrev p_is_entry : List Str := ["entry", "part"]
theorem sc_is_entry : FnScope n_is_entry p_is_entry (defScope s_is_entry) := ⟨rfl, rfl, rfl, by decide +kernel, rfl, by decide +kernel, by decide +kernel⟩
abbrev s_named_in : Stmt := top 45
abbrev n_named_in : List Str := ["flat", "labels", "slots", "gates", "row", "word", "slot"]
abbrev p_named_in : List Str := ["flat"]
theorem sc_named_in : FnScope n_named_in p_named_in (defScope s_named_in) := ⟨rfl, rfl, rfl, by decide +kernel, rfl, by decide +kernel, by decide +kernel⟩
abbrev s_check_sizes : Stmt := top 46
abbrev n_check_sizes : List Str := ["plan", "names"]
abbrev p_check_sizes : List Str := ["plan", "names"]
theorem sc_check_sizes : FnScope n_check_sizes p_check_sizes (defScope s_check_sizes) := ⟨rfl, rfl, rfl, by decide +kernel, rfl, by decide +kernel, by decide +kernel⟩
abbrev s_Program___init__ : Stmt := inClass (top 48) 0
abbrev n_Program___init__ : List Str := ["self", "rows", "asks", "signals", "inputs"]
abbrev p_Program___init__ : List Str := ["self", "rows", "asks", "signals", "inputs"]
theorem sc_Program___init__ : FnScope n_Program___init__ p_Program___init__ (defScope s_Program___init__) := ⟨rfl, rfl, rfl, by decide +kernel, rfl, by decide +kernel, by decide +kernel⟩
abbrev s_Program_rows : Stmt := inClass (top 48) 1
abbrev n_Program_rows : List Str := ["self"]
abbrev p_Program_rows : List Str := ["self"]
theorem sc_Program_rows : FnScope n_Program_rows p_Program_rows (defScope s_Program_rows) := ⟨rfl, rfl, rfl, by decide +kernel, rfl, by decide +kernel, by decide +kernel⟩
abbrev s_Program_paths : Stmt := inClass (top 48) 5
abbrev n_Program_paths : List Str := ["self"]
abbrev p_Program_paths : List Str := ["self"]
theorem sc_Program_paths : FnScope n_Program_paths p_Program_paths (defScope s_Program_paths) := ⟨rfl, rfl, rfl, by decide +kernel, rfl, by decide +kernel, by decide +kernel⟩
abbrev s_Program_names : Stmt := inClass (top 48) 7
abbrev n_Program_names : List Str := ["self", "kind"]
abbrev p_Program_names : List Str := ["self"]
theorem sc_Program_names : FnScope n_Program_names p_Program_names (defScope s_Program_names) := ⟨rfl, rfl, rfl, by decide +kernel, rfl, by decide +kernel, by decide +kernel⟩
abbrev s_Program___len__ : Stmt := inClass (top 48) 10
abbrev n_Program___len__ : List Str := ["self"]
abbrev p_Program___len__ : List Str := ["self"]
theorem sc_Program___len__ : FnScope n_Program___len__ p_Program___len__ (defScope s_Program___len__) := ⟨rfl, rfl, rfl, by decide +kernel, rfl, by decide +kernel, by decide +kernel⟩
abbrev s_Program_asks : Stmt := inClass (top 48) 2
abbrev n_Program_asks : List Str := ["self"]
abbrev p_Program_asks : List Str := ["self"]
theorem sc_Program_asks : FnScope n_Program_asks p_Program_asks (defScope s_Program_asks) := ⟨rfl, rfl, rfl, by decide +kernel, rfl, by decide +kernel, by decide +kernel⟩
abbrev s_Program_signals : Stmt := inClass (top 48) 3
abbrev n_Program_signals : List Str := ["self"]
abbrev p_Program_signals : List Str := ["self"]
theorem sc_Program_signals : FnScope n_Program_signals p_Program_signals (defScope s_Program_signals) := ⟨rfl, rfl, rfl, by decide +kernel, rfl, by decide +kernel, by decide +kernel⟩
abbrev s_Program_inputs : Stmt := inClass (top 48) 4
abbrev n_Program_inputs : List Str := ["self"]
abbrev p_Program_inputs : List Str := ["self"]
theorem sc_Program_inputs : FnScope n_Program_inputs p_Program_inputs (defScope s_Program_inputs) := ⟨rfl, rfl, rfl, by decide +kernel, rfl, by decide +kernel, by decide +kernel⟩
abbrev s_program_text : Stmt := top 54
abbrev n_program_text : List Str := ["program", "asks", "signals", "lines", "name", "room", "words"]
abbrev p_program_text : List Str := ["program"]
theorem sc_program_text : FnScope n_program_text p_program_text (defScope s_program_text) := ⟨rfl, rfl, rfl, by decide +kernel, rfl, by decide +kernel, by decide +kernel⟩
abbrev s_lines_of : Stmt := top 55
abbrev n_lines_of : List Str := ["rows", "level", "lines", "row"]
abbrev p_lines_of : List Str := ["rows", "level"]
theorem sc_lines_of : FnScope n_lines_of p_lines_of (defScope s_lines_of) := ⟨rfl, rfl, rfl, by decide +kernel, rfl, by decide +kernel, by decide +kernel⟩
abbrev s_words_in : Stmt := top 56
abbrev n_words_in : List Str := ["row", "words", "form", "part"]
abbrev p_words_in : List Str := ["row"]
theorem sc_words_in : FnScope n_words_in p_words_in (defScope s_words_in) := ⟨rfl, rfl, rfl, by decide +kernel, rfl, by decide +kernel, by decide +kernel⟩
abbrev s_inner_lines : Stmt := top 57
abbrev n_inner_lines : List Str := ["row", "level", "lines", "number", "inner"]
abbrev p_inner_lines : List Str := ["row", "level"]
theorem sc_inner_lines : FnScope n_inner_lines p_inner_lines (defScope s_inner_lines) := ⟨rfl, rfl, rfl, by decide +kernel, rfl, by decide +kernel, by decide +kernel⟩
abbrev s__law_pool : Stmt := top 59
abbrev n__law_pool : List Str := ["_law_script", "_law_k", "_law_cell", "_law_big"]
abbrev p__law_pool : List Str := ["_law_script", "_law_k"]
theorem sc__law_pool : FnScope n__law_pool p__law_pool (defScope s__law_pool) := ⟨rfl, rfl, rfl, by decide +kernel, rfl, by decide +kernel, by decide +kernel⟩
abbrev s__law_draw : Stmt := top 60
abbrev n__law_draw : List Str := ["_law_pool_here", "_law_many", "_law_one", "_law_two", "_law_digit"]
abbrev p__law_draw : List Str := ["_law_pool_here", "_law_many"]
theorem sc__law_draw : FnScope n__law_draw p__law_draw (defScope s__law_draw) := ⟨rfl, rfl, rfl, by decide +kernel, rfl, by decide +kernel, by decide +kernel⟩
abbrev s__law_item : Stmt := top 61
abbrev n__law_item : List Str := ["_law_pool_here", "_law_items"]
abbrev p__law_item : List Str := ["_law_pool_here", "_law_items"]
theorem sc__law_item : FnScope n__law_item p__law_item (defScope s__law_item) := ⟨rfl, rfl, rfl, by decide +kernel, rfl, by decide +kernel, by decide +kernel⟩
abbrev s__law_names : Stmt := top 62
abbrev n__law_names : List Str := ["_law_pool_here", "_law_many", "_law_style", "_law_start", "_law_names_here", "_law_k", "_law_sign"]
abbrev p__law_names : List Str := ["_law_pool_here", "_law_many"]
theorem sc__law_names : FnScope n__law_names p__law_names (defScope s__law_names) := ⟨rfl, rfl, rfl, by decide +kernel, rfl, by decide +kernel, by decide +kernel⟩
abbrev s__law_parts : Stmt := top 63
abbrev n__law_parts : List Str := ["_law_pool_here", "_law_words", "_law_names_here", "_law_answers", "_law_name", "_law_rooms", "_law_starts"]
abbrev p__law_parts : List Str := ["_law_pool_here"]
theorem sc__law_parts : FnScope n__law_parts p__law_parts (defScope s__law_parts) := ⟨rfl, rfl, rfl, by decide +kernel, rfl, by decide +kernel, by decide +kernel⟩
abbrev s__law_pair : Stmt := top 64
abbrev n__law_pair : List Str := ["_law_pool_here", "_law_names_here", "_law_timer", "_law_label", "_law_start"]
abbrev p__law_pair : List Str := ["_law_pool_here", "_law_names_here"]
theorem sc__law_pair : FnScope n__law_pair p__law_pair (defScope s__law_pair) := ⟨rfl, rfl, rfl, by decide +kernel, rfl, by decide +kernel, by decide +kernel⟩
abbrev s__law_race : Stmt := top 65
abbrev n__law_race : List Str := ["_law_pool_here", "_law_names_here", "_law_one", "_law_two", "_law_rows"]
abbrev p__law_race : List Str := ["_law_pool_here", "_law_names_here"]
theorem sc__law_race : FnScope n__law_race p__law_race (defScope s__law_race) := ⟨rfl, rfl, rfl, by decide +kernel, rfl, by decide +kernel, by decide +kernel⟩
abbrev s__law_plain : Stmt := top 66
abbrev n__law_plain : List Str := ["_law_pool_here", "_law_names_here", "_law_pick", "_law_label", "_law_slot", "_law_words"]
abbrev p__law_plain : List Str := ["_law_pool_here", "_law_names_here"]
theorem sc__law_plain : FnScope n__law_plain p__law_plain (defScope s__law_plain) := ⟨rfl, rfl, rfl, by decide +kernel, rfl, by decide +kernel, by decide +kernel⟩
abbrev s__law_some : Stmt := top 67
abbrev n__law_some : List Str := ["_law_pool_here", "_law_names_here", "_law_fuel", "_law_depth", "_law_loop", "_law_pick", "_law_slot", "_law_word", "_law_one", "_law_two"]
abbrev p__law_some : List Str := ["_law_pool_here", "_law_names_here", "_law_fuel", "_law_depth", "_law_loop"]
theorem sc__law_some : FnScope n__law_some p__law_some (defScope s__law_some) := ⟨rfl, rfl, rfl, by decide +kernel, rfl, by decide +kernel, by decide +kernel⟩
abbrev s__law_block : Stmt := top 68
abbrev n__law_block : List Str := ["_law_pool_here", "_law_names_here", "_law_fuel", "_law_depth", "_law_loop", "_law_rows", "_law_k"]
abbrev p__law_block : List Str := ["_law_pool_here", "_law_names_here", "_law_fuel", "_law_depth", "_law_loop"]
theorem sc__law_block : FnScope n__law_block p__law_block (defScope s__law_block) := ⟨rfl, rfl, rfl, by decide +kernel, rfl, by decide +kernel, by decide +kernel⟩
abbrev s__law_spec : Stmt := top 69
abbrev n__law_spec : List Str := ["_law_pool_here", "_law_left", "_law_deep", "_law_spec_here", "_law_fuel"]
abbrev p__law_spec : List Str := ["_law_pool_here", "_law_left", "_law_deep"]
theorem sc__law_spec : FnScope n__law_spec p__law_spec (defScope s__law_spec) := ⟨rfl, rfl, rfl, by decide +kernel, rfl, by decide +kernel, by decide +kernel⟩
abbrev s__law_made : Stmt := top 70
abbrev n__law_made : List Str := ["_law_spec_here", "_law_rows"]
abbrev p__law_made : List Str := ["_law_spec_here", "_law_rows"]
theorem sc__law_made : FnScope n__law_made p__law_made (defScope s__law_made) := ⟨rfl, rfl, rfl, by decide +kernel, rfl, by decide +kernel, by decide +kernel⟩
abbrev s__law_lists : Stmt := top 71
abbrev n__law_lists : List Str := ["_law_row", "_law_part"]
abbrev p__law_lists : List Str := ["_law_row"]
theorem sc__law_lists : FnScope n__law_lists p__law_lists (defScope s__law_lists) := ⟨rfl, rfl, rfl, by decide +kernel, rfl, by decide +kernel, by decide +kernel⟩
abbrev s__law_lines : Stmt := top 73
abbrev n__law_lines : List Str := ["_law_rows", "_law_level", "_law_found", "_law_row", "_law_margin", "_law_lists_here", "_law_part"]
abbrev p__law_lines : List Str := ["_law_rows", "_law_level"]
theorem sc__law_lines : FnScope n__law_lines p__law_lines (defScope s__law_lines) := ⟨rfl, rfl, rfl, by decide +kernel, rfl, by decide +kernel, by decide +kernel⟩
abbrev s__law_head : Stmt := top 74
abbrev n__law_head : List Str := ["_law_spec_here", "_law_found", "_law_name", "_law_room", "_law_words"]
abbrev p__law_head : List Str := ["_law_spec_here"]
theorem sc__law_head : FnScope n__law_head p__law_head (defScope s__law_head) := ⟨rfl, rfl, rfl, by decide +kernel, rfl, by decide +kernel, by decide +kernel⟩
abbrev s__law_text : Stmt := top 75
abbrev n__law_text : List Str := ["_law_spec_here"]
abbrev p__law_text : List Str := ["_law_spec_here"]
theorem sc__law_text : FnScope n__law_text p__law_text (defScope s__law_text) := ⟨rfl, rfl, rfl, by decide +kernel, rfl, by decide +kernel, by decide +kernel⟩
abbrev s__law_wide : Stmt := top 76
abbrev n__law_wide : List Str := ["_law_script", "_law_pool_here", "_law_spec_here", "_law_words", "_law_k"]
abbrev p__law_wide : List Str := ["_law_script"]
theorem sc__law_wide : FnScope n__law_wide p__law_wide (defScope s__law_wide) := ⟨rfl, rfl, rfl, by decide +kernel, rfl, by decide +kernel, by decide +kernel⟩
abbrev s__law_turned : Stmt := top 77
abbrev n__law_turned : List Str := ["_law_given", "_law_found", "_law_name"]
abbrev p__law_turned : List Str := ["_law_given"]
theorem sc__law_turned : FnScope n__law_turned p__law_turned (defScope s__law_turned) := ⟨rfl, rfl, rfl, by decide +kernel, rfl, by decide +kernel, by decide +kernel⟩
abbrev s_law : Stmt := top 78
abbrev n_law : List Str := ["_law_script", "_law_spec_here", "_law_program", "_law_due", "_law_told", "_law_other"]
abbrev p_law : List Str := ["_law_script"]
theorem sc_law : FnScope n_law p_law (defScope s_law) := ⟨rfl, rfl, rfl, by decide +kernel, rfl, by decide +kernel, by decide +kernel⟩
structure Tx (w : World) (K : PySem.W.Frag) (mg : Str → Option Value) : Prop where
  b_isinstance : mg "isinstance" = none
  b_str : mg "str" = none
  b_int : mg "int" = none
  b_bool : mg "bool" = none
  b_tuple : mg "tuple" = none
  b_list : mg "list" = none
  b_dict : mg "dict" = none
  b_len : mg "len" = none
  b_all : mg "all" = none
  b_zip : mg "zip" = none
  b_enumerate : mg "enumerate" = none
  b_range : mg "range" = none
  b_sorted : mg "sorted" = none
  b_set : mg "set" = none
  b_sum : mg "sum" = none
  m_THROUGH : ∃ t, mg "THROUGH" = some (.int (-1) t)
  m_FINISH : ∃ t, mg "FINISH" = some (.int (-2) t)
  m_MOST_ASKS : ∃ t, mg "MOST_ASKS" = some (.int (6) t)
  m_MOST_ANSWERS : ∃ t, mg "MOST_ANSWERS" = some (.int (4) t)
  m_MOST_SIGNALS : ∃ t, mg "MOST_SIGNALS" = some (.int (3) t)
  m_MOST_ROOM : ∃ t, mg "MOST_ROOM" = some (.int (3) t)
  m_MOST_SIGNAL_WORDS : ∃ t, mg "MOST_SIGNAL_WORDS" = some (.int (3) t)
  m_MOST_INPUTS : ∃ t, mg "MOST_INPUTS" = some (.int (3) t)
  m_MOST_ROWS : ∃ t, mg "MOST_ROWS" = some (.int (60) t)
  m_MOST_LABELS : ∃ t, mg "MOST_LABELS" = some (.int (6) t)
  m_MOST_SLOTS : ∃ t, mg "MOST_SLOTS" = some (.int (4) t)
  m_MOST_GATES : ∃ t, mg "MOST_GATES" = some (.int (8) t)
  m_DEEPEST : ∃ t, mg "DEEPEST" = some (.int (5) t)
  m_MOST_IN_ROW : ∃ t, mg "MOST_IN_ROW" = some (.int (3) t)
  m_LONGEST_WORD : ∃ t, mg "LONGEST_WORD" = some (.int (8) t)
  m_STEP : ∃ t, mg "STEP" = some (.str "  " t)
  m_EDIT : ∃ t, mg "EDIT" = some (.str "edit" t)
  m_INPUT_SLOT : ∃ t, mg "INPUT_SLOT" = some (.str "in" t)
  m_FORMS : mg "FORMS" = some (.ref (He.ga K "FORMS"))
  D_FORMS : KD K w (He.ga K "FORMS")
  forms : ∀ e ∈ ftab, ∃ p, PySem.W.nsIn K (He.ga K "FORMS") e.1 = some (some (.ref p)) ∧ ∀ H, SqT K H p (e.2.map V.str)
  m_Program : mg "Program" = some (.ref (He.ga K "Program"))
  m_DIVIDERS : mg "DIVIDERS" = some (.ref (He.ga K "DIVIDERS"))
  D_DIVIDERS : KD K w (He.ga K "DIVIDERS")
  dIf : ∃ u, PySem.W.nsIn K (He.ga K "DIVIDERS") "if" = some (some u) ∧ RelV (.str "else") u
  dGate : ∃ u, PySem.W.nsIn K (He.ga K "DIVIDERS") "gate" = some (some u) ∧ RelV (.str "old") u
  m_INNER : mg "INNER" = some (.ref (He.ga K "INNER"))
  t_INNER : ∀ H, SqT K H (He.ga K "INNER") [.str "rows", .str "sides"]
  m_SEVERAL : mg "SEVERAL" = some (.ref (He.ga K "SEVERAL"))
  t_SEVERAL : ∀ H, SqT K H (He.ga K "SEVERAL") [.str "labels", .str "words"]
  c_RowCheck : Cls K (He.ga K "RowCheck")
  n_RowCheck_ask_table : NoAttr K (He.ga K "RowCheck") "ask_table"
  n_RowCheck_signal_table : NoAttr K (He.ga K "RowCheck") "signal_table"
  n_RowCheck_with_edits : NoAttr K (He.ga K "RowCheck") "with_edits"
  n_RowCheck_seen_edits : NoAttr K (He.ga K "RowCheck") "seen_edits"
  n_RowCheck_seen_gates : NoAttr K (He.ga K "RowCheck") "seen_gates"
  c_Plan : Cls K (He.ga K "Plan")
  n_Plan_flat : NoAttr K (He.ga K "Plan") "flat"
  n_Plan_places : NoAttr K (He.ga K "Plan") "places"
  n_Plan_behind : NoAttr K (He.ga K "Plan") "behind"
  n_Plan_entries : NoAttr K (He.ga K "Plan") "entries"
  n_Plan_sides : NoAttr K (He.ga K "Plan") "sides"
  n_Plan_starts : NoAttr K (He.ga K "Plan") "starts"
  n_Plan_numbers : NoAttr K (He.ga K "Plan") "numbers"
  c_Program : Cls K (He.ga K "Program")
  n_Program_ask_table : NoAttr K (He.ga K "Program") "ask_table"
  n_Program_signal_table : NoAttr K (He.ga K "Program") "signal_table"
  n_Program_input_words : NoAttr K (He.ga K "Program") "input_words"
  n_Program_row_list : NoAttr K (He.ga K "Program") "row_list"
  n_Program_plan : NoAttr K (He.ga K "Program") "plan"
  n_Program_name_table : NoAttr K (He.ga K "Program") "name_table"
end OR

set_option Elab.async false
set_option maxRecDepth 100000
set_option maxHeartbeats 4000000
set_option linter.all false
namespace L2
open PySem PySem.Spec PyProof.Rows
theorem tchainC' {f g : Int → Int → Bool} {c i j : Int} {ta tb tc : TE} {σ : St} {H : Hp} {Q : VK} (ha : Val ta σ H (.int i)) (hb : Val tb σ H (.int j)) (hc : Val tc σ H (.int c)) (h : Q (.bl (f i j && g j c)) H) :
    tChain (rI0 fun i j => .bl (f i j)) (rI0 fun i j => .bl (g i j)) ta tb tc σ H Q := by
  refine ha _ (hb _ ⟨i, j, rfl, rfl, f i j, rfl, ?_⟩)
  cases e : f i j with
  | true =>
    rw [e] at h
    exact iteT (hc _ ⟨j, c, rfl, rfl, h⟩)
  | false =>
    rw [e] at h
    exact iteF h
end L2
namespace OR
open PySem PySem.Spec PyProof.Rows L2 TS2
theorem at0 {x : V} {xs : List V} : atI (x :: xs) 0 = some x := atI_nat (xs := x :: xs) (j := 0) (by rfl)
theorem at1 {x y : V} {xs : List V} : atI (x :: y :: xs) 1 = some y := atI_nat (xs := x :: y :: xs) (j := 1) (by rfl)
theorem tyT {K : PySem.W.Frag} {H : Hp} {a : Addr} {xs : List V} (h : SqT K H a xs) : TyX K H (.ref a) (.type "tuple") := by
  rcases h with (h | ⟨o, h⟩) | ⟨o, _, _, h, hc, _⟩
  · exact .base (.tup h)
  · exact .fTuple h
  · exact .kTuple h hc
theorem tyL {K : PySem.W.Frag} {H : Hp} {a : Addr} {xs : List V} (h : SqL K H a xs) : TyX K H (.ref a) (.type "list") := by
  rcases h with (h | ⟨o, h⟩) | ⟨o, _, _, h, hc, _⟩
  · exact .base (.lst h)
  · exact .base (.frz h)
  · exact .kList h hc
theorem sameT {K : PySem.W.Frag} {H H' : Hp} {a : Addr} {xs : List V} (e : Same H H') (h : SqT K H a xs) : SqT K H' a xs := by
  rcases h with (h | ⟨o, h⟩) | h
  · exact .inl (.inl (e _ _ h))
  · exact .inl (.inr ⟨o, e _ _ h⟩)
  · exact .inr h
/-- a value that is no x -/
def NotA (K : PySem.W.Frag) (H : Hp) (v : V) (x : String) : Prop := ∃ ty, TyX K H v ty ∧ PySem.W.kitOne K ty (.type x) = some false
def lowC (c : Nat) : Bool := (!decide ((⟨#[c]⟩ : Str).cps.toList < ("a" : Str).cps.toList)) && (!decide (("z" : Str).cps.toList < (⟨#[c]⟩ : Str).cps.toList))
def isWord (z : Str) : Bool := (decide (1 ≤ (z.length : Int)) && decide ((z.length : Int) ≤ 8)) && (z.cps.toList.map lowC).all id
/-- no text -/
def NoStrT (K : PySem.W.Frag) (H : Hp) (v : V) : Prop := ∃ ty, TyX K H v ty ∧ PySem.W.kitOne K ty (.type "str") = some false
def spIsWord (K : PySem.W.Frag) : Sp := fun vs H Q _ => (∃ z : Str, vs = [.str z] ∧ z.length ≤ sizeLine ∧ ∀ H', Same H H' → Q (.bl (isWord z)) H') ∨ ∃ v, vs = [v] ∧ NoStrT K H v ∧ Q (.bl false) H
theorem noStr_non {K : PySem.W.Frag} {H : Hp} : NoStrT K H .non := ⟨_, .base .non, kit_ty (by decide +kernel)⟩
theorem noStr_int {K : PySem.W.Frag} {H : Hp} (i : Int) : NoStrT K H (.int i) := ⟨_, .base (.int i), kit_ty (by decide +kernel)⟩
theorem tchainS {i j c : Str} {ta tb : TE} {σ : L2.St} {H : Hp} {Q : VK} (ha : Val ta σ H (.str i)) (hb : Val tb σ H (.str j))
    (h : Q (.bl ((!decide (j.cps.toList < i.cps.toList)) && (!decide (c.cps.toList < j.cps.toList)))) H) :
    tChain (fun x y H Q => ∃ i j, x = V.str i ∧ y = V.str j ∧ Q (V.bl !decide (j.cps.toList < i.cps.toList)) H) (fun x y H Q => ∃ i j, x = V.str i ∧ y = V.str j ∧ Q (V.bl !decide (j.cps.toList < i.cps.toList)) H) ta tb (tC (.str c)) σ H Q := by
  refine ha _ (hb _ ⟨i, j, rfl, rfl, (!decide (j.cps.toList < i.cps.toList)), rfl, ?_⟩)
  cases e : (!decide (j.cps.toList < i.cps.toList)) with
  | true =>
    rw [e] at h
    exact iteT ⟨j, c, rfl, rfl, h⟩
  | false =>
    rw [e] at h
    exact iteF h
theorem tYes_ {σ : L2.St} {H : Hp} {Q : Bool → Hp → Prop} (h : Q true H) : tYes σ H Q := h
def spIsInt : Sp := fun vs H Q _ => ∃ (v : V) (b : Bool), vs = [v] ∧ ((∃ i, v = .int i ∧ b = true) ∨ (∃ c, v = .bl c ∧ b = false) ∨ (∃ z, v = .str z ∧ b = false)) ∧ Q (.bl b) H
def areW (m : Int) (ws : List Str) : Bool := (decide (1 ≤ (ws.length : Int)) && decide ((ws.length : Int) ≤ m)) && ((ws.map isWord).all id && decide (V.int (uniq ws).length = V.int ws.length))
def spAreWords (K : PySem.W.Frag) : Sp := fun vs H Q _ => ∃ (v : V) (m : Int), vs = [v, .int m] ∧
  ((∃ a ws, v = .ref a ∧ SqT K H a (ws.map V.str) ∧ (∀ z ∈ ws, z.length ≤ sizeLine) ∧ ws.length ≤ 1000 ∧ ∀ H', Same H H' → Q (.bl (areW m ws)) H') ∨ (NotA K H v "tuple" ∧ Q (.bl false) H))
section
variable {P : Program} {w : World} {K : PySem.W.Frag} {mg : Str → Option Value} {base : Heap}
theorem ok_is_word {f : Addr} {fd : FuncData} (F : FnP K "is_word" "is_word" s_is_word f fd) (T : Tx w K mg) : FnOk P w K mg base CX0 1 f fd p_is_word (spIsWord K) := by
  refine F.ok sc_is_word (fun vs H Q E h => ?_) (fun cdv A outer s H vs Q E hr h => ?_)
  · rcases h with ⟨z, rfl, _⟩ | ⟨v, rfl, _⟩ <;> rfl
  · obtain ⟨tL, mLONGEST_WORD⟩ := T.m_LONGEST_WORD
    refine ⟨_, PSs.nox (pss_cons (ps_if (PW.pt (pw_or (pt_not (pt_val (pe_callB call_isi (by rfl) T.b_isinstance (by decide +kernel) (pa_cons (pv 0) (pa_cons (pe_bltn (v := .ty "str") (u := .type "str") (by rfl) T.b_str (by decide +kernel) rfl) pa_nil))))) (pw_or1 (pt_not (pt_chain op_le op_le pe_int (pe_callB call_len_str (by rfl) T.b_len PySem.boot_len (pa_cons (pv 0) pa_nil)) (pe_glob (by rfl) mLONGEST_WORD (show RelV (.int (8)) _ from ⟨_, rfl⟩))))))) (pss_one (ps_ret pe_bl)) pss_nil)
      (pss_one (ps_ret (pe_callB (cr_all rfl) (by rfl) T.b_all (by decide +kernel) (pa_cons (pe_lc (own := [("letter", 1)]) (g := (gName 1)) (by rfl) sc_is_word.nd (pi_str (pv 0)) (blkOk_by (N := n_is_word) (sc := defScope s_is_word) (by decide +kernel)) (fun _ _ _ _ _ => (pg_name (i := 1) sc_is_word.nd rfl (.inl rfl))) (fun _ _ _ _ _ => pts_nil) (fun _ _ _ _ _ => (pe_chain op_le_str op_le_str pe_str (pv 1) pe_str))) pa_nil))))), ?_⟩
    rcases h with ⟨z, rfl, hl, k⟩ | ⟨v, rfl, ⟨ty, n1, n2⟩, k⟩
    rotate_left
    · refine ⟨_, rfl, v, .ty "str", _, _, false, rfl, .ty _, n1, n2, _, rfl, ?_⟩
      refine iteT ?_
      refine iteT ?_
      exact k
    refine ⟨_, rfl, .str z, .ty "str", _, _, true, rfl, .ty _, .base (.str z), kit_ty (by decide +kernel), _, rfl, ?_⟩
    refine iteF ?_
    refine tchainC (i := 1) (j := (z.length : Int)) (c := 8) val_c (fun Q q => ⟨_, rfl, _, rfl, hl, q⟩) ⟨_, rfl, ?_⟩
    cases e : (decide (1 ≤ (z.length : Int)) && decide ((z.length : Int) ≤ 8)) with
    | false =>
      refine iteT ?_
      have e2 : isWord z = false := by unfold isWord; rw [e]; rfl
      rw [← e2]
      exact k H (Same.refl H)
    | true =>
      refine iteF ?_
      refine ⟨_, rfl, _, rfl, fun D nD => ?_⟩
      refine lc_it (walk_str (z := z)) (fun i H' => H' = upd H D (.lst (((z.cps.toList.map lowC).take i).map V.bl))) rfl (fun _ _ _ _ => trivial) (fun i x H1 H2 hi p y => ?_) (fun H1 p => ?_)
      · obtain ⟨rfl, c, hc, rfl⟩ := y
        subst p
        refine ⟨rfl, ?_⟩
        refine tYes_ ?_
        refine iteT ?_
        refine tchainS (i := "a") (j := ⟨#[c]⟩) (c := "z") val_c (val_var rfl) ?_
        refine ⟨_, upd_same, ?_, ?_⟩
        · rw [List.length_map, List.length_take, List.length_map]
          refine small1000 ?_
          simp only [Bool.and_eq_true, decide_eq_true_eq] at e
          have : z.cps.toList.length = z.length := by simp [Str.length]
          omega
        · rw [upd_upd]
          have hc' : (z.cps.toList.map lowC)[i]? = some (lowC c) := by
            rw [List.getElem?_map, Array.getElem?_toList, hc]; rfl
          rw [take_more hc', List.map_append]
          rfl
      · subst p
        refine ⟨D, z.cps.toList.map lowC, rfl, SqL.of ?_, ?_⟩
        · rw [upd_same, List.take_of_length_le (by simp)]
        · have e2 : isWord z = (z.cps.toList.map lowC).all id := by unfold isWord; rw [e]; rfl
          rw [← e2]
          exact k _ (Same.new nD)
theorem ok_is_integer {f : Addr} {fd : FuncData} (F : FnP K "is_integer" "is_integer" s_is_integer f fd) (T : Tx w K mg) : FnOk P w K mg base CX0 1 f fd p_is_integer spIsInt := by
  refine F.ok sc_is_integer (fun vs H Q E h => ?_) (fun cdv A outer s H vs Q E hr h => ?_)
  · obtain ⟨v, b, rfl, _⟩ := h
    rfl
  · obtain ⟨v, b, rfl, hv, k⟩ := h
    refine ⟨_, PSs.nox (pss_one (ps_ret (pe_and (pe_callB call_isi (by rfl) T.b_isinstance (by decide +kernel) (pa_cons (pv 0) (pa_cons (pe_bltn (v := .ty "int") (u := .type "int") (by rfl) T.b_int (by decide +kernel) rfl) pa_nil))) (pe_one (pe_not (pe_callB call_isi (by rfl) T.b_isinstance (by decide +kernel) (pa_cons (pv 0) (pa_cons (pe_bltn (v := .ty "bool") (u := .type "bool") (by rfl) T.b_bool (by decide +kernel) rfl) pa_nil)))))))), ?_⟩
    rcases hv with ⟨i, rfl, rfl⟩ | ⟨c, rfl, rfl⟩ | ⟨z, rfl, rfl⟩
    · refine ⟨_, rfl, .int i, .ty "int", _, _, true, rfl, .ty _, .base (.int i), kit_ty (by decide +kernel), _, rfl, ?_⟩
      refine iteT ⟨_, rfl, .int i, .ty "bool", _, _, false, rfl, .ty _, .base (.int i), kit_ty (by decide +kernel), _, rfl, ?_⟩
      exact k
    · refine ⟨_, rfl, .bl c, .ty "int", _, _, true, rfl, .ty _, .base (.bl c), kit_ty (by decide +kernel), _, rfl, ?_⟩
      refine iteT ⟨_, rfl, .bl c, .ty "bool", _, _, true, rfl, .ty _, .base (.bl c), kit_ty (by decide +kernel), _, rfl, ?_⟩
      exact k
    · refine ⟨_, rfl, .str z, .ty "int", _, _, false, rfl, .ty _, .base (.str z), kit_ty (by decide +kernel), _, rfl, ?_⟩
      exact iteF k

theorem ok_are_words {f : Addr} {fd : FuncData} (F : FnP K "are_words" "are_words" s_are_words f fd) (T : Tx w K mg) (G_is_word : Def P w K mg base CX0 1 "is_word" p_is_word (spIsWord K)) : FnOk P w K mg base CX0 2 f fd p_are_words (spAreWords K) := by
  refine F.ok sc_are_words (fun vs H Q E h => ?_) (fun cdv A outer s H vs Q E hr h => ?_)
  · obtain ⟨v, m, rfl, _⟩ := h
    rfl
  · obtain ⟨v, m, rfl, h⟩ := h
    refine ⟨_, PSs.nox (pss_cons (ps_if (PW.pt (pw_or (pt_not (pt_val (pe_callB call_isi (by rfl) T.b_isinstance (by decide +kernel) (pa_cons (pv 0) (pa_cons (pe_bltn (v := .ty "tuple") (u := .type "tuple") (by rfl) T.b_tuple (by decide +kernel) rfl) pa_nil))))) (pw_or1 (pt_not (pt_chain op_le op_le pe_int (pe_callB call_len_seq (by rfl) T.b_len PySem.boot_len (pa_cons (pv 0) pa_nil)) (pv 1)))))) (pss_one (ps_ret pe_bl)) pss_nil)
      (pss_one (ps_ret (pe_and (pe_callB (cr_all rfl) (by rfl) T.b_all (by decide +kernel) (pa_cons (pe_lc (own := [("word", 2)]) (g := (gName 2)) (by rfl) sc_are_words.nd (pi_tup (pv 0)) (blkOk_by (N := n_are_words) (sc := defScope s_are_words) (by decide +kernel)) (fun _ _ _ _ _ => (pg_name (i := 2) sc_are_words.nd rfl (.inl rfl))) (fun _ _ _ _ _ => pts_nil) (fun _ _ _ _ _ => (pe_fn G_is_word (hr.mono (by decide)) (by rfl) pass0 (pa_cons (pv 2) pa_nil)))) pa_nil)) (pe_one (pe_cmpR op_eq (pe_lenU rfl (by rfl) T.b_len (by rfl) T.b_set (pv 0)) (pe_callB call_len_seq (by rfl) T.b_len PySem.boot_len (pa_cons (pv 0) pa_nil)) (nomark _))))))), ?_⟩
    rcases h with ⟨a, ws, rfl, ha, hz, few, k⟩ | ⟨⟨ty, n1, n2⟩, k⟩
    rotate_left
    · refine ⟨_, rfl, v, .ty "tuple", _, _, false, rfl, .ty _, n1, n2, _, rfl, ?_⟩
      refine iteT ?_
      refine iteT ?_
      exact k
    refine ⟨_, rfl, .ref a, .ty "tuple", _, _, true, rfl, .ty _, tyT ha, kit_ty (by decide +kernel), _, rfl, ?_⟩
    refine iteF ?_
    refine tchainC' (i := 1) (j := (ws.length : Int)) (c := m) ?_ ?_ ?_ ?_
    · exact val_c
    · exact fun Q q => ⟨_, rfl, a, _, rfl, .inr ha, by rw [List.length_map]; exact q⟩
    · exact val_var rfl
    refine ⟨_, rfl, ?_⟩
    cases e : (decide (1 ≤ (ws.length : Int)) && decide ((ws.length : Int) ≤ m)) with
    | false =>
      refine iteT ?_
      have e2 : areW m ws = false := by unfold areW; rw [e]; rfl
      rw [← e2]
      exact k H (Same.refl H)
    | true =>
      refine iteF ?_
      refine ⟨_, rfl, a, rfl, ⟨_, ha⟩, fun D nD => ?_⟩
      refine lc_it (walk_tup (K := K) (a := a) (xs := ws.map V.str)) (fun i H' => Same H H' ∧ H' D = some (.lst (((ws.map isWord).take i).map V.bl))) ⟨Same.new nD, upd_same⟩ (fun i H' _ q => sameT q.1 ha) (fun i x H1 H2 hi p y => ?_) (fun H1 p => ?_)
      · obtain ⟨rfl, hx⟩ := y
        obtain ⟨S, hD⟩ := p
        rw [List.getElem?_map] at hx
        cases ez : ws[i]? with
        | none => rw [ez] at hx; cases hx
        | some z =>
          rw [ez] at hx
          cases Option.some.inj hx
          refine ⟨rfl, ?_⟩
          refine tYes_ ?_
          refine iteT ?_
          refine ⟨_, rfl, .inl ⟨z, rfl, hz z (List.mem_of_getElem? ez), fun H2 S2 => ?_⟩⟩
          refine ⟨_, S2 _ _ hD, ?_, fun b o hb => ?_, ?_⟩
          · rw [List.length_map, List.length_take, List.length_map]
            exact small1000 (by omega)
          · rw [upd_ne (ne_of_none hb nD)]
            exact S2 _ _ (S _ _ hb)
          · rw [upd_same, take_more (x := isWord z) (by rw [List.getElem?_map, ez]; rfl), List.map_append]
            rfl
      · obtain ⟨S, hD⟩ := p
        refine ⟨D, ws.map isWord, rfl, SqL.of (by rw [hD, List.length_map, List.take_of_length_le (by simp)]), ?_⟩
        have e2 : areW m ws = ((ws.map isWord).all id && decide (V.int (uniq ws).length = V.int ws.length)) := by unfold areW; rw [e]; rfl
        refine ⟨_, rfl, ?_⟩
        cases e3 : (ws.map isWord).all id with
        | false =>
          refine iteF ?_
          rw [e3] at e2
          have e4 : areW m ws = false := e2
          rw [← e4]
          exact k _ S
        | true =>
          rw [e3] at e2
          refine iteT ⟨_, rfl, a, ws, rfl, sameT S ha, by have : scanBound = 4096 := rfl; omega, ?_⟩
          refine ⟨_, rfl, a, _, rfl, .inr (sameT S ha), rfl, ?_⟩
          rw [List.length_map]
          have e4 : areW m ws = decide (V.int (uniq ws).length = V.int ws.length) := e2
          rw [← e4]
          exact k _ S
end
end OR

set_option Elab.async false
set_option maxRecDepth 100000
set_option maxHeartbeats 4000000
set_option linter.all false
namespace OR
open PySem PySem.Spec PyProof.Rows L2 TS2
theorem cut1 {x : V} {rs : List V} : cutV (x :: rs) (some 1) none = rs := by
  unfold cutV
  simp [HT.sIx]
theorem not_whole {n : Nat} : ¬ (HT.sIx (n + 1) 0 (some 1) = 0 ∧ HT.sIx (n + 1) (n + 1) none = n + 1) := by
  rintro ⟨z, _⟩
  simp [HT.sIx] at z
theorem kids_snoc {R : Type} (ps : List (Pt R)) (p : Pt R) : kids (ps ++ [p]) = kids ps ++ kidsP p := by unfold kids; simp
theorem named_snoc {R : Type} (which fs : List Str) (ps : List (Pt R)) (f : Str) (p : Pt R) (h : fs.length = ps.length) : named which (fs ++ [f]) (ps ++ [p]) = named which fs ps ++ (if f ∈ which then wordsP p else []) := by
  unfold named
  rw [List.zip_append h]
  simp
theorem kids_take_le {R : Type} (ps : List (Pt R)) (i : Nat) : (kids (ps.take i)).length ≤ (kids ps).length := by
  conv => rhs; rw [← List.take_append_drop i ps]
  unfold kids
  rw [List.map_append, List.flatten_append, List.length_append]
  omega
theorem zip_take {α β : Type} : ∀ (xs : List α) (ys : List β) (i : Nat), (xs.take i).zip (ys.take i) = (xs.zip ys).take i
  | [], _, _ => by simp
  | x :: xs, [], i => by simp
  | x :: xs, y :: ys, 0 => by simp
  | x :: xs, y :: ys, i + 1 => by simp [zip_take xs ys i]
theorem named_take_le {R : Type} (which fs : List Str) (ps : List (Pt R)) (i : Nat) : (named which (fs.take i) (ps.take i)).length ≤ (named which fs ps).length := by
  unfold named
  have e : (fs.take i).zip (ps.take i) = (fs.zip ps).take i := zip_take fs ps i
  rw [e]
  conv => rhs; rw [← List.take_append_drop i (fs.zip ps)]
  rw [List.map_append, List.flatten_append, List.length_append]
  omega
theorem inV_words {f : Str} : ∀ (ws : List Str), inV (.str f) (ws.map V.str) = decide (f ∈ ws)
  | [] => rfl
  | x :: ws => by
    have ih := inV_words (f := f) ws
    unfold inV at ih ⊢
    rw [List.map_cons, List.any_cons, ih]
    show ((x == f) || decide (f ∈ ws)) = decide (f ∈ x :: ws)
    by_cases e : x = f
    · subst e; simp
    · have e' : ¬ f = x := fun z => e z.symm
      have b : (x == f) = false := by simpa [beq_iff_eq] using e
      simp [b, e']
theorem flat_words (ws : List Str) : (ws.map V.str).all flatV = true := by
  rw [List.all_map, List.all_eq_true]
  intro x _
  rfl
theorem Kp.D {H0 H1 H2 : Hp} {D : Addr} (S : Same H0 H1) (k : Kp (· = D) H1 H2) (n : H0 D = none) : Same H0 H2 := fun b o hb => k b o (S b o hb) fun z => by rw [z, n] at hb; cases hb
def spListsOf (K : PySem.W.Frag) : Sp := fun vs H Q _ => ∃ (v : V) (H0 : Hp) (d : Nat) (r : Row (d + 1)) (fs : List Str), vs = [v] ∧ RowAt K H0 (d + 1) r v ∧ Same H0 H ∧ (r.1, fs) ∈ ftab ∧ KindsOk fs r.2 ∧ (kids r.2).length ≤ 1000 ∧
  ∀ (H' : Hp) (D : Addr) (xs : List V), Same H H' → H D = none → H' D = some (.lst xs) → All2 (LstAt H0 (RowAt K H0 d)) (kids r.2) xs → Q (.ref D) H'
def spNamed (K : PySem.W.Frag) : Sp := fun vs H Q _ => ∃ (v : V) (t : Addr) (which : List Str) (H0 : Hp) (d : Nat) (r : Row (d + 1)) (fs : List Str), vs = [v, .ref t] ∧ SqT K H t (which.map V.str) ∧ RowAt K H0 (d + 1) r v ∧ Same H0 H ∧ (r.1, fs) ∈ ftab ∧ KindsOk fs r.2 ∧
  (∀ f ∈ which, f ≠ "rows" ∧ f ≠ "sides") ∧ (named which fs r.2).length ≤ 1000 ∧ ∀ (H' : Hp) (D : Addr), Same H H' → H D = none → H' D = some (.lst ((named which fs r.2).map V.str)) → Q (.ref D) H'
section
variable {P : Program} {w : World} {K : PySem.W.Frag} {mg : Str → Option Value} {base : Heap}
theorem ok_lists_of {f : Addr} {fd : FuncData} (F : FnP K "lists_of" "lists_of" s_lists_of f fd) (T : Tx w K mg) : FnOk P w K mg base CX0 1 f fd p_lists_of (spListsOf K) := by
  refine F.ok sc_lists_of (fun vs H Q E h => ?_) (fun cdv A outer s H vs Q E hr h => ?_)
  · obtain ⟨v, _, _, _, _, rfl, _⟩ := h
    rfl
  · obtain ⟨v, H0, d, r, fs, rfl, ⟨a, vs, rfl, ha, hp⟩, S0, hf, hk, few, k⟩ := h
    refine ⟨_, PSs.nox (pss_cons (ps_set (i := 1) sc_lists_of.nd rfl (.inl rfl) (pe_lst pa_nil))
      (pss_cons (ps_for PassesOwn.never rfl (RZ.pi_zipA (by rfl) T.b_zip (pa_cons (pe_ix ix_kdict (pe_ref (by rfl) T.m_FORMS) (pe_ix ix_tup (pv 0) pe_int (fun _ _ => rfl)) (fun _ _ => rfl)) (pa_cons (pe_slice sl_tup (pv 0) (po_some pe_int) po_none) pa_nil))) (pg_tup (by rfl) (pgs_cons (pg_name (i := 2) sc_lists_of.nd rfl (.inl rfl)) (pgs_cons (pg_name (i := 3) sc_lists_of.nd rfl (.inl rfl)) pgs_nil))) (pss_one (ps_if (pt_cmpR op_eq (pv 2) pe_str (nomark _)) (pss_one (ps_expr (pe_bm PySem.F.plainAttrs_list PySem.F.slot_list_append PySem.F.type_list_append mt_append (pv 1) (pa_cons (pv 3) pa_nil)))) (pss_one (ps_if (pt_cmpR op_eq (pv 2) pe_str (nomark _)) (pss_one (ps_expr (pe_bm PySem.F.plainAttrs_list PySem.F.slot_list_extend PySem.F.type_list_extend mt_extendT (pv 1) (pa_cons (pv 3) pa_nil)))) pss_nil)))))
      (pss_one (ps_ret (pv 1))))), ?_⟩
    refine ⟨by show 0 ≤ sizeLine; decide, fun D nD => ?_⟩
    have S1 : Same H (upd H D (.lst [])) := Same.new nD
    have hD : upd H D (.lst []) D = some (.lst []) := upd_same
    generalize upd H D (.lst []) = H1 at S1 hD ⊢
    have ha1 := sameT (S0.trans S1) ha
    obtain ⟨p, e1, hp1⟩ := T.forms _ hf
    refine ⟨_, rfl, a, _, _, .str r.1, rfl, rfl, ha1, at0, _, _, .ref p, rfl, rfl, kdct T.D_FORMS e1 rfl, ?_⟩
    refine ⟨_, rfl, 1, rfl, a, _, rfl, ha1, by rw [List.length_cons]; exact not_whole, fun q nq => ?_⟩
    rw [cut1]
    have S2 : Same H1 (upd H1 q (.tup vs)) := Same.new nq
    have hq : upd H1 q (.tup vs) q = some (.tup vs) := upd_same
    generalize upd H1 q (.tup vs) = H2 at S2 hq ⊢
    refine ⟨p, q, fs.map V.str, vs, rfl, .inr ⟨hp1 _, SqT.of hq, ?_⟩⟩
    have lf : fs.length = vs.length := hk.len.trans hp.len
    refine for_it (walk_zipT (K := K) (a := p) (b := q) (xs := fs.map V.str) (ys := vs) (n := vs.length) (by rw [List.length_map, lf]; simp)) (fun i σ' H' => (∃ x y, σ' = [some (.ref a), some (.ref D), x, y]) ∧ Kp (· = D) H2 H' ∧ ∃ xs, H' D = some (.lst xs) ∧ All2 (LstAt H0 (RowAt K H0 d)) (kids (r.2.take i)) xs)
      ⟨⟨none, none, rfl⟩, Kp.refl _, [], S2 _ _ hD, .nil⟩ (fun i σ' H' _ p0 => ?_) (fun i x σ' H3 H4 hi p0 y => ?_) (fun σ' H' p0 => ?_)
    · obtain ⟨_, kp, _⟩ := p0
      exact ⟨hp1 _, SqT.of (kp _ _ hq (fun z => by rw [z, S2 _ _ hD] at hq; cases hq))⟩
    · obtain ⟨⟨x0, y0, rfl⟩, kp, xs, hx, hxs⟩ := p0
      obtain ⟨T1, fm, pv0, rfl, nT, rfl, hfm, hpv⟩ := y
      have hfm : (fs.map V.str)[i]? = some fm := hfm
      have hpv : vs[i]? = some pv0 := hpv
      rw [List.getElem?_map] at hfm
      cases ef : fs[i]? with
      | none => rw [ef] at hfm; cases hfm
      | some f0 =>
        rw [ef] at hfm
        cases Option.some.inj hfm
        obtain ⟨pt, hpt, hpat⟩ := hp.other hpv
        have ko := hk.at_ ef hpt
        have hx4 : upd H3 T1 (.tup [.str f0, pv0]) D = some (.lst xs) := by rw [upd_ne (ne_of_none hx nT)]; exact hx
        have kp4 : Kp (· = D) H2 (upd H3 T1 (.tup [.str f0, pv0])) := kp.trans (Kp.of (Same.new nT))
        have kl := kids_take_le r.2 (i + 1)
        rw [take_more hpt, kids_snoc, List.length_append] at kl
        have lx := hxs.len
        refine ⟨T1, _, rfl, SqT.of upd_same, rfl, _, _, rfl, _, _, rfl, rfl, ?_⟩
        generalize upd H3 T1 (.tup [.str f0, pv0]) = H5 at hx4 kp4 ⊢
        have fin : ∀ zs, xs.length + zs.length ≤ 1000 → All2 (LstAt H0 (RowAt K H0 d)) (kidsP pt) zs → Kp (· = D) H2 (upd H5 D (.lst (xs ++ zs))) ∧ ∃ ys, upd H5 D (.lst (xs ++ zs)) D = some (.lst ys) ∧ All2 (LstAt H0 (RowAt K H0 d)) (kids (r.2.take (i + 1))) ys := fun zs _ hz =>
          ⟨kp4.trans (Kp.put rfl), _, upd_same, by rw [take_more hpt, kids_snoc]; exact hxs.app hz⟩
        refine ⟨_, rfl, rfl, _, rfl, ?_⟩
        cases pt with
        | rows l =>
          have ef0 : f0 = "rows" := by simpa [kindOk] using ko
          subst ef0
          refine iteT' (by decide +kernel) ?_
          obtain ⟨b, ys, rfl, hb, hys⟩ := hpat
          have z1 : xs.length + 1 ≤ 1000 := by simp [kidsP] at kl; omega
          refine ⟨_, rfl, .inl ⟨rfl, _, SqL.of hx4⟩, _, rfl, D, xs, .ref b, rfl, rfl, hx4, small1000 (by omega), ?_⟩
          exact ⟨⟨_, _, rfl⟩, fin [.ref b] z1 (.one ⟨b, ys, rfl, hb, hys⟩)⟩
        | sides ls =>
          have ef0 : f0 = "sides" := by simpa [kindOk] using ko
          subst ef0
          refine iteF' (by decide +kernel) ?_
          refine ⟨_, rfl, rfl, _, rfl, ?_⟩
          refine iteT' (by decide +kernel) ?_
          obtain ⟨b, ys, rfl, hb, hys⟩ := hpat
          have z1 : xs.length + ys.length ≤ 1000 := by have := hys.len; simp [kidsP] at kl; omega
          refine ⟨_, rfl, .inl ⟨rfl, _, SqL.of hx4⟩, _, rfl, D, b, xs, ys, rfl, rfl, hx4, ?_, Nat.le_of_lt (small1000 z1), ?_⟩
          · exact sameT (Kp.base (S0.trans (S1.trans S2)) kp4 (fun c e => by subst e; exact S0.free nD)) hb
          exact ⟨⟨_, _, rfl⟩, fin ys z1 hys⟩
        | word s0 =>
          have n1 : f0 ≠ "rows" ∧ f0 ≠ "sides" := by simp [kindOk] at ko; exact ⟨ko.1.1.1, ko.1.1.2⟩
          refine iteF' (decide_eq_false fun z => n1.1 (by injection z)) ?_
          refine ⟨_, rfl, rfl, _, rfl, ?_⟩
          refine iteF' (decide_eq_false fun z => n1.2 (by injection z)) ?_
          refine ⟨⟨_, _, rfl⟩, kp4, xs, hx4, ?_⟩
          rw [take_more hpt, kids_snoc]
          simpa [kidsP] using hxs
        | words l0 =>
          have n1 : f0 ≠ "rows" ∧ f0 ≠ "sides" := by
            simp [kindOk] at ko
            rcases ko with rfl | rfl <;> exact ⟨by decide +kernel, by decide +kernel⟩
          refine iteF' (decide_eq_false fun z => n1.1 (by injection z)) ?_
          refine ⟨_, rfl, rfl, _, rfl, ?_⟩
          refine iteF' (decide_eq_false fun z => n1.2 (by injection z)) ?_
          refine ⟨⟨_, _, rfl⟩, kp4, xs, hx4, ?_⟩
          rw [take_more hpt, kids_snoc]
          simpa [kidsP] using hxs
    · obtain ⟨⟨x0, y0, rfl⟩, kp, xs, hx, hxs⟩ := p0
      rw [← hp.len, List.take_length] at hxs
      exact ⟨_, rfl, k H' D xs (fun b o hb => kp b o (S2 b o (S1 b o hb)) (fun z => by rw [z, nD] at hb; cases hb)) nD hx hxs⟩
theorem ok_words_named {f : Addr} {fd : FuncData} (F : FnP K "words_named" "words_named" s_words_named f fd) (T : Tx w K mg) : FnOk P w K mg base CX0 1 f fd p_words_named (spNamed K) := by
  refine F.ok sc_words_named (fun vs H Q E h => ?_) (fun cdv A outer s H vs Q E hr h => ?_)
  · obtain ⟨v, t, _, _, _, _, _, rfl, _⟩ := h
    rfl
  · obtain ⟨v, t, which, H0, d, r, fs, rfl, ht, ⟨a, vs, rfl, ha, hp⟩, S0, hf, hk, nk, few, k⟩ := h
    refine ⟨_, PSs.nox (pss_cons (ps_set (i := 2) sc_words_named.nd rfl (.inl rfl) (pe_lst pa_nil))
      (pss_cons (ps_for PassesOwn.never rfl (RZ.pi_zipA (by rfl) T.b_zip (pa_cons (pe_ix ix_kdict (pe_ref (by rfl) T.m_FORMS) (pe_ix ix_tup (pv 0) pe_int (fun _ _ => rfl)) (fun _ _ => rfl)) (pa_cons (pe_slice sl_tup (pv 0) (po_some pe_int) po_none) pa_nil))) (pg_tup (by rfl) (pgs_cons (pg_name (i := 3) sc_words_named.nd rfl (.inl rfl)) (pgs_cons (pg_name (i := 4) sc_words_named.nd rfl (.inl rfl)) pgs_nil))) (pss_one (ps_if (PW.pt (pw_and (pt_cmpR op_in_seq (pv 3) (pv 1) (by rfl)) (pw_and1 (pt_val (pe_callB call_isi (by rfl) T.b_isinstance (by decide +kernel) (pa_cons (pv 4) (pa_cons (pe_bltn (v := .ty "tuple") (u := .type "tuple") (by rfl) T.b_tuple (by decide +kernel) rfl) pa_nil))))))) (pss_one (ps_expr (pe_bm PySem.F.plainAttrs_list PySem.F.slot_list_extend PySem.F.type_list_extend mt_extendT (pv 2) (pa_cons (pv 4) pa_nil)))) (pss_one (ps_if (pt_cmpR op_in_seq (pv 3) (pv 1) (by rfl)) (pss_one (ps_expr (pe_bm PySem.F.plainAttrs_list PySem.F.slot_list_append PySem.F.type_list_append mt_append (pv 2) (pa_cons (pv 4) pa_nil)))) pss_nil)))))
      (pss_one (ps_ret (pv 2))))), ?_⟩
    refine ⟨by show 0 ≤ sizeLine; decide, fun D nD => ?_⟩
    have S1 : Same H (upd H D (.lst [])) := Same.new nD
    have hD : upd H D (.lst []) D = some (.lst []) := upd_same
    generalize upd H D (.lst []) = H1 at S1 hD ⊢
    have ha1 := sameT (S0.trans S1) ha
    obtain ⟨p, e1, hp1⟩ := T.forms _ hf
    refine ⟨_, rfl, a, _, _, .str r.1, rfl, rfl, ha1, at0, _, _, .ref p, rfl, rfl, kdct T.D_FORMS e1 rfl, ?_⟩
    refine ⟨_, rfl, 1, rfl, a, _, rfl, ha1, by rw [List.length_cons]; exact not_whole, fun q nq => ?_⟩
    rw [cut1]
    have S2 : Same H1 (upd H1 q (.tup vs)) := Same.new nq
    have hq : upd H1 q (.tup vs) q = some (.tup vs) := upd_same
    generalize upd H1 q (.tup vs) = H2 at S2 hq ⊢
    refine ⟨p, q, fs.map V.str, vs, rfl, .inr ⟨hp1 _, SqT.of hq, ?_⟩⟩
    have lf : fs.length = vs.length := hk.len.trans hp.len
    refine for_it (walk_zipT (K := K) (a := p) (b := q) (xs := fs.map V.str) (ys := vs) (n := vs.length) (by rw [List.length_map, lf]; simp)) (fun i σ' H' => (∃ x y, σ' = [some (.ref a), some (.ref t), some (.ref D), x, y]) ∧ Kp (· = D) H2 H' ∧ H' D = some (.lst ((named which (fs.take i) (r.2.take i)).map V.str)))
      ⟨⟨none, none, rfl⟩, Kp.refl _, S2 _ _ hD⟩ (fun i σ' H' _ p0 => ?_) (fun i x σ' H3 H4 hi p0 y => ?_) (fun σ' H' p0 => ?_)
    · obtain ⟨_, kp, _⟩ := p0
      exact ⟨hp1 _, SqT.of (kp _ _ hq (fun z => by rw [z, S2 _ _ hD] at hq; cases hq))⟩
    · obtain ⟨⟨x0, y0, rfl⟩, kp, hx⟩ := p0
      obtain ⟨T1, fm, pv0, rfl, nT, rfl, hfm, hpv⟩ := y
      have hfm : (fs.map V.str)[i]? = some fm := hfm
      have hpv : vs[i]? = some pv0 := hpv
      rw [List.getElem?_map] at hfm
      cases ef : fs[i]? with
      | none => rw [ef] at hfm; cases hfm
      | some f0 =>
        rw [ef] at hfm
        cases Option.some.inj hfm
        obtain ⟨pt, hpt, hpat⟩ := hp.other hpv
        have ko := hk.at_ ef hpt
        have lt : (fs.take i).length = (r.2.take i).length := by rw [List.length_take, List.length_take, hk.len]
        have hx4 : upd H3 T1 (.tup [.str f0, pv0]) D = some (.lst ((named which (fs.take i) (r.2.take i)).map V.str)) := by rw [upd_ne (ne_of_none hx nT)]; exact hx
        have kp4 : Kp (· = D) H2 (upd H3 T1 (.tup [.str f0, pv0])) := kp.trans (Kp.of (Same.new nT))
        have kl := named_take_le which fs r.2 (i + 1)
        rw [take_more hpt, take_more ef, named_snoc _ _ _ _ _ lt, List.length_append] at kl
        refine ⟨T1, _, rfl, SqT.of upd_same, rfl, _, _, rfl, _, _, rfl, rfl, ?_⟩
        generalize upd H3 T1 (.tup [.str f0, pv0]) = H5 at hx4 kp4 ⊢
        have S5 : Same H0 H5 := Kp.base (S0.trans (S1.trans S2)) kp4 (fun c e => by subst e; exact S0.free nD)
        have ht5 : SqT K H5 t (which.map V.str) := sameT (Kp.D (S1.trans S2) kp4 nD) ht
        have fin : ∀ zs : List Str, (if f0 ∈ which then wordsP pt else []) = zs → Kp (· = D) H2 (upd H5 D (.lst ((named which (fs.take i) (r.2.take i)).map V.str ++ zs.map V.str))) ∧ upd H5 D (.lst ((named which (fs.take i) (r.2.take i)).map V.str ++ zs.map V.str)) D = some (.lst ((named which (fs.take (i + 1)) (r.2.take (i + 1))).map V.str)) := fun zs hz =>
          ⟨kp4.trans (Kp.put rfl), by rw [upd_same, take_more hpt, take_more ef, named_snoc _ _ _ _ _ lt, hz, List.map_append]⟩
        refine ⟨_, rfl, _, rfl, t, _, rfl, .inr ht5, rfl, flat_words _, _, rfl, ?_⟩
        have e3 : (if false = true then !inV (.str f0) (which.map V.str) else inV (.str f0) (which.map V.str)) = decide (f0 ∈ which) := inV_words _
        have again : ∀ {A B : Prop}, (f0 ∈ which → A) → (f0 ∉ which → B) → if (if false = true then !inV (.str f0) (which.map V.str) else inV (.str f0) (which.map V.str)) = true then A else B := fun {A B} h1 h2 => by
          rw [e3]
          by_cases c : f0 ∈ which
          · rw [if_pos (decide_eq_true c)]; exact h1 c
          · rw [if_neg (by simp [c])]; exact h2 c
        refine again (fun c => ?_) (fun c => ?_)
        · obtain ⟨c1, c2⟩ := nk f0 c
          cases pt with
          | rows l => exact absurd (show f0 = "rows" by simpa [kindOk] using ko) c1
          | sides l => exact absurd (show f0 = "sides" by simpa [kindOk] using ko) c2
          | words l =>
            obtain ⟨b, rfl, hb⟩ := hpat
            refine ⟨_, rfl, .ref b, .ty "tuple", _, _, true, rfl, .ty _, tyT (sameT S5 hb), kit_ty (by decide +kernel), _, rfl, ?_⟩
            refine iteT ?_
            rw [if_pos c] at kl
            have z1 : ((named which (fs.take i) (r.2.take i)).map V.str).length + (l.map V.str).length ≤ 1000 := by rw [List.length_map, List.length_map]; simp [wordsP] at kl; omega
            refine ⟨_, rfl, .inl ⟨rfl, _, SqL.of hx4⟩, _, rfl, D, b, _, _, rfl, rfl, hx4, sameT S5 hb, Nat.le_of_lt (small1000 z1), ?_⟩
            exact ⟨⟨_, _, rfl⟩, fin l (by rw [if_pos c]; rfl)⟩
          | word s0 =>
            cases (show pv0 = .str s0 from hpat)
            refine ⟨_, rfl, .str s0, .ty "tuple", _, _, false, rfl, .ty _, .base (.str _), kit_ty (by decide +kernel), _, rfl, ?_⟩
            refine iteF ?_
            refine ⟨_, rfl, _, rfl, t, _, rfl, .inr ht5, rfl, flat_words _, _, rfl, ?_⟩
            refine again (fun _ => ?_) (fun c' => absurd c c')
            rw [if_pos c] at kl
            have z1 : ((named which (fs.take i) (r.2.take i)).map V.str).length ≤ 1000 := by rw [List.length_map]; omega
            refine ⟨_, rfl, .inl ⟨rfl, _, SqL.of hx4⟩, _, rfl, D, _, .str s0, rfl, rfl, hx4, small1000 z1, ?_⟩
            exact ⟨⟨_, _, rfl⟩, fin [s0] (by rw [if_pos c]; rfl)⟩
        · refine ⟨_, rfl, _, rfl, t, _, rfl, .inr ht5, rfl, flat_words _, _, rfl, ?_⟩
          refine again (fun c' => absurd c' c) (fun _ => ?_)
          refine ⟨⟨_, _, rfl⟩, kp4, ?_⟩
          rw [hx4, take_more hpt, take_more ef, named_snoc _ _ _ _ _ lt, if_neg c, List.append_nil]
    · obtain ⟨⟨x0, y0, rfl⟩, kp, hx⟩ := p0
      rw [← lf, List.take_length, lf, ← hp.len, List.take_length] at hx
      exact ⟨_, rfl, k H' D (Kp.D (S1.trans S2) kp nD) nD hx⟩
end
end OR

set_option Elab.async false
set_option maxRecDepth 100000
set_option maxHeartbeats 4000000
set_option linter.all false
namespace L2
open PySem PySem.Spec PyProof.Rows
/-- a walk within a comprehension: B the turn's reading, from which Pv of the next is to be reached -/
theorem out_it {J : It} {n : Nat} {G : Hp → Prop} {Y : Nat → Hp → V → Hp → Prop} (w : Walk J n G Y) {B : V → Hp → (Hp → Prop) → Prop} {Qd : Hp → Prop} {H1 : Hp} (Pv : Nat → Hp → Prop) (h0 : Pv 0 H1) (hG : ∀ i H, i ≤ n → Pv i H → G H)
    (hs : ∀ i x H H', i < n → Pv i H → Y i H x H' → B x H' (Pv (i + 1))) (hd : ∀ H, Pv n H → Qd H) :
    ∃ W : Nat → Nat → Hp → Prop, (∃ m, W 0 m H1) ∧ ∀ i m H, W i m H → (J.stop i H ∧ Qd H) ∨ (J.go i H ∧ ∃ Nx : Hp → Prop, (∀ H', Nx H' → ∃ m', m' < m ∧ W (i + 1) m' H') ∧ ∀ x H', J.yld i H x H' → B x H' Nx) := by
  refine ⟨fun i m H => m = n - i ∧ i ≤ n ∧ Pv i H, ⟨n, by simp, Nat.zero_le _, h0⟩, ?_⟩
  rintro i m H ⟨rfl, hi, p⟩
  have q := hG i H hi p
  by_cases hlt : i < n
  · exact .inr ⟨w.goes i H hlt q, Pv (i + 1), fun H' p' => ⟨n - (i + 1), by omega, rfl, hlt, p'⟩, fun x H' y => hs i x H H' hlt p (w.yields i H x H' hlt q y)⟩
  · have e : i = n := by omega
    subst e
    exact .inl ⟨w.stops H q, hd H p⟩
/-- a block without captured names, within any scope -/
theorem blkOk_any {N : List Str} {sc scope : Scope} {own : List (Str × Nat)} (h : blkC N { scope with names := [] } scope own = true) : BlkOk N sc scope own := by
  obtain ⟨h1, h2, h3, h4, h5⟩ := blkOk_by h
  exact ⟨h1, h2, h3, fun y hy e => by
    rcases h4 y hy e with z | z <;> simp at z, h5⟩
end L2
namespace OR
open PySem PySem.Spec PyProof.Rows L2 TS2
theorem LstAt.mono {R : Type} {H H' : Hp} {RA RA' : R → V → Prop} {l : List R} {v : V} (s : Same H H') (m : ∀ r v, RA r v → RA' r v) (h : LstAt H RA l v) : LstAt H' RA' l v := by
  obtain ⟨a, xs, rfl, ha, hx⟩ := h
  exact ⟨a, xs, rfl, s _ _ ha, hx.imp fun x y _ q => m x y q⟩
theorem PtAt.mono {K : PySem.W.Frag} {R : Type} {H H' : Hp} {RA RA' : R → V → Prop} {p : Pt R} {v : V} (s : Same H H') (m : ∀ r v, RA r v → RA' r v) (h : PtAt K H RA p v) : PtAt K H' RA' p v := by
  cases p with
  | word z => exact h
  | words l =>
    obtain ⟨a, rfl, ha⟩ := h
    exact ⟨a, rfl, sameT s ha⟩
  | rows l => exact LstAt.mono s m h
  | sides ls =>
    obtain ⟨a, vs, rfl, ha, hx⟩ := h
    exact ⟨a, vs, rfl, sameT s ha, hx.imp fun x y _ q => LstAt.mono s m q⟩
theorem RowAt.mono {K : PySem.W.Frag} {H H' : Hp} (s : Same H H') : ∀ {d : Nat} {r : Row d} {v : V}, RowAt K H d r v → RowAt K H' d r v
  | 0, r, _, _ => nomatch r
  | d + 1, r, v, h => by
    obtain ⟨a, vs, rfl, ha, hx⟩ := h
    exact ⟨a, vs, rfl, sameT s ha, hx.imp fun x y _ q => PtAt.mono s (fun r v q => RowAt.mono s q) q⟩
/-- H where S holds -/
noncomputable def res (S : Addr → Prop) (H : Hp) : Hp := fun b => @ite _ (S b) (Classical.propDecidable _) (H b) none
theorem res_of {S : Addr → Prop} {H : Hp} {b : Addr} (h : S b) : res S H b = H b := by unfold res; rw [if_pos h]
theorem res_some {S : Addr → Prop} {H : Hp} {b : Addr} {o : HO} (h : res S H b = some o) : S b ∧ H b = some o := by
  unfold res at h
  by_cases c : S b
  · rw [if_pos c] at h; exact ⟨c, h⟩
  · rw [if_neg c] at h; cases h
theorem same_res {S S' : Addr → Prop} {H H' : Hp} (h : ∀ b o, S b → H b = some o → S' b ∧ H' b = some o) : Same (res S H) (res S' H') := fun b o e => by
  obtain ⟨c, e⟩ := res_some e
  obtain ⟨c', e'⟩ := h b o c e
  rw [res_of c', e']
theorem res_same {S : Addr → Prop} {H : Hp} : Same (res S H) H := fun b o e => (res_some e).2
/-- of H0, or new -/
def Nw (H0 H : Hp) (b : Addr) : Prop := H0 b ≠ none ∨ H b = none
/-- the forms: rows stand last -/
def cntR (fs : List Str) : Nat := fs.count ("rows" : Str)
theorem ftab_ends : ∀ e ∈ ftab, (e.1 = "both" ∧ e.2 = [("sides" : Str)]) ∨ (e.1 ≠ "both" ∧ (∀ f ∈ e.2.take (e.2.length - cntR e.2), f ≠ "rows" ∧ f ≠ "sides") ∧ e.2.drop (e.2.length - cntR e.2) = List.replicate (cntR e.2) ("rows" : Str)) := by
  decide +kernel
theorem kids_app {R : Type} (a b : List (Pt R)) : kids (a ++ b) = kids a ++ kids b := by
  unfold kids
  rw [List.map_append, List.flatten_append]
theorem kids_plain {R : Type} : ∀ {fs : List Str} {ps : List (Pt R)}, KindsOk fs ps → (∀ f ∈ fs, f ≠ "rows" ∧ f ≠ "sides") → kids ps = []
  | [], [], _, _ => rfl
  | f :: fs, p :: ps, .cons h t, n => by
    have ih := kids_plain t fun g hg => n g (List.mem_cons_of_mem _ hg)
    have e : kids (p :: ps) = kidsP p ++ kids ps := by unfold kids; simp
    rw [e, ih]
    obtain ⟨n1, n2⟩ := n f List.mem_cons_self
    cases p with
    | rows l => exact absurd (show f = "rows" by simpa [kindOk] using h) n1
    | sides l => exact absurd (show f = "sides" by simpa [kindOk] using h) n2
    | word _ => rfl
    | words _ => rfl
theorem kids_rows {R : Type} : ∀ {n : Nat} {ps : List (Pt R)}, KindsOk (List.replicate n ("rows" : Str)) ps → ps = (kids ps).map Pt.rows ∧ (kids ps).length = n
  | 0, [], _ => ⟨rfl, rfl⟩
  | n + 1, p :: ps, h => by
    cases h with
    | cons h t =>
      obtain ⟨e1, e2⟩ := kids_rows (n := n) t
      have e : kids (p :: ps) = kidsP p ++ kids ps := by unfold kids; simp
      cases p with
      | rows l =>
        rw [e]
        refine ⟨?_, ?_⟩
        · show Pt.rows l :: ps = Pt.rows l :: (kids ps).map Pt.rows
          rw [← e1]
        · show (kids ps).length + 1 = n + 1
          rw [e2]
      | sides l => exact absurd h (by simp [kindOk] <;> decide +kernel)
      | word _ => exact absurd h (by simp [kindOk] <;> decide +kernel)
      | words _ => exact absurd h (by simp [kindOk] <;> decide +kernel)
theorem All2.drop {α β : Type} {R : α → β → Prop} {xs : List α} {ys : List β} (h : All2 R xs ys) : ∀ n, All2 R (xs.drop n) (ys.drop n) := by
  induction h with
  | nil => intro n; simp; exact .nil
  | cons h t ih =>
    intro n
    cases n with
    | zero => exact .cons h t
    | succ n => exact ih n
/-- a row of no both: the plain parts, then its lists -/
theorem row_split {R : Type} {w : Str} {fs : List Str} {ps : List (Pt R)} (hf : (w, fs) ∈ ftab) (hk : KindsOk fs ps) : (w = "both" ∧ ∃ ls, ps = [.sides ls] ∧ kids ps = ls) ∨
    (w ≠ "both" ∧ ∃ n, n + (kids ps).length = ps.length ∧ ps = ps.take n ++ (kids ps).map Pt.rows) := by
  rcases ftab_ends _ hf with ⟨h1, h2⟩ | ⟨h1, h2, h3⟩
  · left
    refine ⟨h1, ?_⟩
    have h2 : fs = [("sides" : Str)] := h2
    subst h2
    cases hk with
    | cons h t =>
      cases t
      rename_i p
      cases p with
      | sides ls => exact ⟨ls, rfl, by simp [kids, kidsP]⟩
      | rows l => exact absurd h (by simp [kindOk] <;> decide +kernel)
      | word _ => exact absurd h (by simp [kindOk] <;> decide +kernel)
      | words _ => exact absurd h (by simp [kindOk] <;> decide +kernel)
  · right
    refine ⟨h1, fs.length - cntR fs, ?_⟩
    have a1 := kids_plain (hk.take (fs.length - cntR fs)) h2
    have h3 : fs.drop (fs.length - cntR fs) = List.replicate (cntR fs) ("rows" : Str) := h3
    have a2 := All2.drop hk (fs.length - cntR fs)
    rw [h3] at a2
    obtain ⟨e1, e2⟩ := kids_rows a2
    have ek : kids ps = kids (ps.drop (fs.length - cntR fs)) := by
      conv => lhs; rw [← List.take_append_drop (fs.length - cntR fs) ps]
      rw [kids_app, a1]
      rfl
    have cl : cntR fs ≤ fs.length := List.count_le_length
    have lp := hk.len
    refine ⟨by rw [ek, e2]; omega, ?_⟩
    conv => lhs; rw [← List.take_append_drop (fs.length - cntR fs) ps]
    rw [ek, ← e1]
def isT : HO → Bool
  | .tup _ => true
  | .frz _ (.tup _) => true
  | _ => false
/-- a tuple stands there, or nothing -/
def NL (B : Hp) (b : Addr) : Prop := ∀ o, B b = some o → isT o = true
theorem NL.of {B H : Hp} (s : Same B H) {b : Addr} (h : NL H b) : NL B b := fun o e => h o (s _ _ e)
theorem NL.new {B : Hp} {b : Addr} (h : B b = none) : NL B b := fun o e => by rw [h] at e; cases e
theorem NL.no {B : Hp} {b : Addr} {o : HO} (h : NL B b) (e : B b = some o) (t : isT o = false) : False := by
  have := h o e
  rw [t] at this
  cases this
theorem sqT_nl {K : PySem.W.Frag} {B Hs H H' : Hp} {a : Addr} {xs : List V} (s0 : Same B H) (s1 : Same Hs H) (s2 : Same H H') (h : SqT K Hs a xs) : SqT K (res (NL B) H') a xs := by
  have nl : ∀ {b : Addr} {o : HO}, Hs b = some o → isT o = true → res (NL B) H' b = some o := fun {b o} e n => by
    rw [res_of (S := NL B) fun o' q => by have := s0 _ _ q; rw [s1 _ _ e] at this; rw [← Option.some.inj this]; exact n]
    exact s2 _ _ (s1 _ _ e)
  rcases h with (h | ⟨o, h⟩) | h
  · exact .inl (.inl (nl h rfl))
  · exact .inl (.inr ⟨o, nl h rfl⟩)
  · exact .inr h
def spWith (K : PySem.W.Frag) : Sp := fun vs H Q _ => ∃ (v : V) (L : Addr) (B Hs Hk : Hp) (d : Nat) (r : Row (d + 1)) (fs : List Str) (xs : List V), vs = [v, .ref L] ∧ RowAt K Hs (d + 1) r v ∧ Same Hs H ∧ Same B H ∧ Same Hk H ∧ (∀ b o, Hk b = some o → NL B b) ∧ (r.1, fs) ∈ ftab ∧ KindsOk fs r.2 ∧ r.2.length ≤ 1000 ∧ (kids r.2).length ≤ 1000 ∧
  H L = some (.lst xs) ∧ All2 (LstAt Hk (RowAt K Hk d)) (kids r.2) xs ∧ ∀ (H' : Hp) (t : Addr), Same H H' → RowAt K (res (NL B) H') (d + 1) r (.ref t) → Q (.ref t) H'
theorem same_nw {Hx H H' : Hp} (s : Same Hx H) (t : Same H H') : Same Hx (res (Nw Hx H) H') := fun b o e => by
  rw [res_of (S := Nw Hx H) (.inl (by rw [e]; simp))]
  exact t b o (s b o e)
theorem nw_at {Hx H H' : Hp} {b : Addr} {o : HO} (n : H b = none) (e : H' b = some o) : res (Nw Hx H) H' b = some o := by
  rw [res_of (S := Nw Hx H) (.inr n)]
  exact e
section
variable {P : Program} {w : World} {K : PySem.W.Frag} {mg : Str → Option Value} {base : Heap}
theorem ok_with_lists {f : Addr} {fd : FuncData} (F : FnP K "with_lists" "with_lists" s_with_lists f fd) (T : Tx w K mg) : FnOk P w K mg base CX0 1 f fd p_with_lists (spWith K) := by
  refine F.ok sc_with_lists (fun vs H Q E h => ?_) (fun cdv A outer s H vs Q E hr h => ?_)
  · obtain ⟨v, L, _, _, _, _, _, _, _, rfl, _⟩ := h
    rfl
  · obtain ⟨v, L, B, Hs, Hk, d, r, fs, xs, rfl, ⟨a, vs, rfl, ha, hp⟩, Sx, SB, Sk, hkn, hf, hk, few1, few2, hL, hxs, k⟩ := h
    have kmono : ∀ {H' : Hp}, Same H H' → Same Hk (res (NL B) H') := fun S b o e => by
      rw [res_of (S := NL B) (hkn _ _ e)]
      exact S _ _ (Sk _ _ e)
    have nw_at : ∀ {H' : Hp} {b : Addr} {o : HO}, H b = none → H' b = some o → res (NL B) H' b = some o := fun n e => by
      rw [res_of (S := NL B) (NL.new (SB.free n))]
      exact e
    have tmono : ∀ {H' : Hp} {t : Addr} {ys : List V}, Same H H' → SqT K Hs t ys → SqT K (res (NL B) H') t ys := fun S h => sqT_nl SB Sx S h
    have pmono : ∀ {H' : Hp} {p : Pt (Row d)} {v : V}, Same H H' → kidsP p = [] → PtAt K Hs (RowAt K Hs d) p v → PtAt K (res (NL B) H') (RowAt K (res (NL B) H') d) p v := fun {H' p v} S np h => by
      cases p with
      | word z => exact h
      | words l => obtain ⟨b, rfl, hb⟩ := h; exact ⟨b, rfl, tmono S hb⟩
      | rows l => cases np
      | sides ls =>
        obtain ⟨b, ws, rfl, hb, hx⟩ := h
        have np : ls = [] := np
        subst np
        cases hx
        exact ⟨b, [], rfl, tmono S hb, .nil⟩
    refine ⟨_, PSs.nox (pss_cons (ps_if (pt_cmpR op_eq (pe_ix ix_tup (pv 0) pe_int (fun _ _ => rfl)) pe_str (nomark _)) (pss_one (ps_ret (pe_tup (pa_cons pe_str (pa_cons (pe_callTy call_tuple_of (by rfl) T.b_tuple (by decide +kernel) (pa_cons (pv 1) pa_nil)) pa_nil))))) pss_nil)
      (pss_one (ps_ret (pe_op op_catA (pe_slice sl_tupA (pv 0) po_none (po_some (pe_op op_sub (pe_callB call_len_seq (by rfl) T.b_len PySem.boot_len (pa_cons (pv 0) pa_nil)) (pe_callB call_len_seq (by rfl) T.b_len PySem.boot_len (pa_cons (pv 1) pa_nil))))) (pe_callTy call_tuple_of (by rfl) T.b_tuple (by decide +kernel) (pa_cons (pv 1) pa_nil)))))), ?_⟩
    have ha1 := sameT Sx ha
    refine ⟨_, rfl, a, _, _, .str r.1, rfl, rfl, ha1, at0, rfl, _, rfl, ?_⟩
    rcases row_split hf hk with ⟨e1, ls, e2, e3⟩ | ⟨e1, n, e2, e3⟩
    · refine iteT' (decide_eq_true (by rw [e1])) ?_
      refine ⟨_, rfl, L, xs, rfl, .inl ⟨SqL.of hL, fun t1 n1 => ?_⟩⟩
      have S1 : Same H (upd H t1 (.tup xs)) := Same.new n1
      have h1 : upd H t1 (.tup xs) t1 = some (.tup xs) := upd_same
      generalize upd H t1 (.tup xs) = H1 at S1 h1 ⊢
      refine ⟨by show 2 ≤ sizeLine; decide, fun t2 n2 => ?_⟩
      have S2 : Same H1 (upd H1 t2 (.tup [.str "both", .ref t1])) := Same.new n2
      have h2 : upd H1 t2 (.tup [.str "both", .ref t1]) t2 = some (.tup [.str "both", .ref t1]) := upd_same
      generalize upd H1 t2 (.tup [.str "both", .ref t1]) = H2 at S2 h2 ⊢
      have SS := kmono (S1.trans S2)
      refine k H2 t2 (S1.trans S2) ⟨t2, [.ref t1], rfl, SqT.of (nw_at (S1.free n2) (by rw [e1]; exact h2)), ?_⟩
      rw [e2]
      refine .one ⟨t1, xs, rfl, SqT.of (nw_at n1 (S2 _ _ h1)), ?_⟩
      rw [e3] at hxs
      exact hxs.imp fun x y _ q => LstAt.mono SS (fun r v q => RowAt.mono SS q) q
    · refine iteF' (decide_eq_false fun z => e1 (by injection z)) ?_
      have lp := hp.len
      have lx := hxs.len
      have lz : ((V.str r.1 :: vs).length : Int) - (xs.length : Int) = ((n + 1 : Nat) : Int) := by rw [List.length_cons]; omega
      have hzero : xs.length + n = vs.length := by omega
      have kt : ∀ p ∈ r.2.take n, kidsP p = [] := by
        have e := congrArg (fun q => (kids q).length) e3
        have ek : ∀ ls : List (List (Row d)), kids (ls.map Pt.rows) = ls := fun ls => by
          unfold kids
          induction ls with
          | nil => rfl
          | cons l ls ih =>
            have : (List.map kidsP (List.map Pt.rows (l :: ls))).flatten = l :: (List.map kidsP (List.map Pt.rows ls)).flatten := rfl
            rw [this, ih]
        have e : (kids r.2).length = (kids (r.2.take n ++ (kids r.2).map Pt.rows)).length := e
        rw [kids_app, ek, List.length_append] at e
        have z : kids (r.2.take n) = [] := List.length_eq_zero_iff.mp (by omega)
        intro p hp2
        unfold kids at z
        have := List.flatten_eq_nil_iff.mp z (kidsP p) (List.mem_map.mpr ⟨p, hp2, rfl⟩)
        exact this
      have parts : ∀ {H' : Hp}, Same H H' → All2 (PtAt K (res (NL B) H') (RowAt K (res (NL B) H') d)) r.2 (vs.take n ++ xs) := fun {H'} S => by
        rw [e3]
        refine All2.app ((hp.take n).imp fun x y hx q => pmono S (kt x hx) q) ?_
        have SS := kmono S
        have m : ∀ {ls : List (List (Row d))} {ys : List V}, All2 (LstAt Hk (RowAt K Hk d)) ls ys → All2 (PtAt K (res (NL B) H') (RowAt K (res (NL B) H') d)) (ls.map Pt.rows) ys := fun {ls ys} h => by
          induction h with
          | nil => exact .nil
          | cons h _ ih => exact .cons (LstAt.mono SS (fun r v q => RowAt.mono SS q) h) ih
        exact m hxs
      have ec : cutV (V.str r.1 :: vs) none (some (((V.str r.1 :: vs).length : Int) - (xs.length : Int))) = V.str r.1 :: vs.take n := by
        rw [lz]
        unfold cutV
        rw [HT.sIx_nat, HT.sIx_none]
        simp
      refine ⟨_, rfl, _, rfl, a, _, rfl, .inr ha1, _, rfl, L, _, rfl, .inl (SqL.of hL), _, _, rfl, rfl, _, rfl, a, _, rfl, ha1, fun wh => ?_, fun nw p np => ?_⟩
      · have en : vs.take n = vs := by
          have z := wh.2
          rw [lz, HT.sIx_nat, List.length_cons] at z
          exact List.take_of_length_le (by omega)
        have hb : SqT K H a (.str r.1 :: vs.take n) := en.symm ▸ ha1
        have S1 : Same H H := Same.refl H
        refine ⟨_, rfl, L, xs, rfl, .inl ⟨SqL.of (S1 _ _ hL), fun t1 n1 => ?_⟩⟩
        refine ⟨a, t1, _, _, rfl, rfl, sameT (Same.new n1) hb, SqT.of upd_same, (by rw [List.length_cons, List.length_take, sizeLine_eq]; omega), fun z => by simp at z, fun _ z => ?_, fun _ _ p3 n3 => ?_⟩
        · refine k _ _ (S1.trans (Same.new n1)) ⟨a, vs.take n, rfl, ?_, ?_⟩
          · exact by rw [en]; exact tmono ((Same.refl H).trans (Same.new (o := .tup xs) n1)) ha
          · have q := parts (S1.trans (Same.new (o := .tup xs) n1))
            have en2 : vs.take n ++ xs = vs.take n := by rw [z, List.append_nil]
            rw [en2] at q
            exact q
        · refine k _ _ ((S1.trans (Same.new n1)).trans (Same.new n3)) ⟨p3, vs.take n ++ xs, rfl, SqT.of (nw_at ((S1.trans (Same.new n1)).free n3) upd_same), parts ((S1.trans (Same.new n1)).trans (Same.new n3))⟩
      · rw [ec]
        have hb : SqT K (upd H p (.tup (V.str r.1 :: vs.take n))) p (.str r.1 :: vs.take n) := SqT.of upd_same
        have S1 : Same H (upd H p (.tup (V.str r.1 :: vs.take n))) := Same.new np
        refine ⟨_, rfl, L, xs, rfl, .inl ⟨SqL.of (S1 _ _ hL), fun t1 n1 => ?_⟩⟩
        refine ⟨p, t1, _, _, rfl, rfl, sameT (Same.new n1) hb, SqT.of upd_same, (by rw [List.length_cons, List.length_take, sizeLine_eq]; omega), fun z => by simp at z, fun _ z => ?_, fun _ _ p3 n3 => ?_⟩
        · refine k _ _ (S1.trans (Same.new n1)) ⟨p, vs.take n, rfl, ?_, ?_⟩
          · exact SqT.of (nw_at np (by rw [upd_ne (ne_of_none upd_same n1)]; exact upd_same))
          · have q := parts (S1.trans (Same.new (o := .tup xs) n1))
            have en2 : vs.take n ++ xs = vs.take n := by rw [z, List.append_nil]
            rw [en2] at q
            exact q
        · refine k _ _ ((S1.trans (Same.new n1)).trans (Same.new n3)) ⟨p3, vs.take n ++ xs, rfl, SqT.of (nw_at ((S1.trans (Same.new n1)).free n3) upd_same), parts ((S1.trans (Same.new n1)).trans (Same.new n3))⟩
end
end OR

set_option Elab.async false
set_option maxRecDepth 100000
set_option maxHeartbeats 4000000
set_option linter.all false
namespace OR
open PySem PySem.Spec PyProof.Rows L2 TS2
/-- the forms are known, the numbers are small, all the way down -/
def Shape : (d : Nat) → Row d → Prop
  | 0, r => nomatch r
  | d + 1, r => (∃ fs, (r.1, fs) ∈ ftab ∧ KindsOk fs r.2) ∧ (∀ p ∈ r.2, (wordsP p).length ≤ 100) ∧ (kids r.2).length ≤ 1000 ∧ ∀ l ∈ kids r.2, l.length ≤ 1000 ∧ ∀ r' ∈ l, Shape d r'
theorem ftab_four : ∀ e ∈ ftab, e.2.length ≤ 4 := by decide +kernel
theorem Shape.parts {d : Nat} {r : Row (d + 1)} (h : Shape (d + 1) r) : r.2.length ≤ 4 := by
  obtain ⟨⟨fs, hf, hk⟩, _⟩ := h
  rw [← hk.len]
  exact ftab_four _ hf
def spCopied (K : PySem.W.Frag) : Nat → Sp
  | 0 => fun _ _ _ _ => False
  | d + 1 => fun vs H Q _ => ∃ (a : Addr) (H0 : Hp) (rows : List (Row d)) (xs : List V), vs = [.ref a] ∧ H0 a = some (.lst xs) ∧ Same H0 H ∧ All2 (RowAt K H0 d) rows xs ∧ rows.length ≤ 1000 ∧ (∀ r ∈ rows, Shape d r) ∧
    ∀ (H' : Hp) (D : Addr) (ys : List V), Same H H' → H D = none → H' D = some (.lst ys) → All2 (RowAt K (res (NL H) H') d) rows ys → Q (.ref D) H'
section
variable {P : Program} {w : World} {K : PySem.W.Frag} {mg : Str → Option Value} {base : Heap}
theorem ok_copied {k0 d : Nat} {f : Addr} {fd : FuncData} (F : FnP K "copied" "copied" s_copied f fd) (T : Tx w K mg) (h1 : 1 ≤ k0) (G_lists_of : Def P w K mg base CX0 1 "lists_of" p_lists_of (spListsOf K)) (G_with_lists : Def P w K mg base CX0 1 "with_lists" p_with_lists (spWith K))
    (G_copied : Def P w K mg base CX0 k0 "copied" p_copied (spCopied K d)) : FnOk P w K mg base CX0 (k0 + 1) f fd p_copied (spCopied K (d + 1)) := by
  refine F.ok sc_copied (fun vs H Q E h => ?_) (fun cdv A outer s H vs Q E hr h => ?_)
  · obtain ⟨a, _, _, _, rfl, _⟩ := h
    rfl
  · obtain ⟨a, H0, rows, xs, rfl, ha, S0, hp, few, sh, k⟩ := h
    have hr1 : Room 1 _ := hr.mono h1
    refine ⟨_, PSs.nox (pss_one (ps_ret (pe_lc (own := [("row", 1)]) (g := (gName 1)) (by rfl) sc_copied.nd (pi_list (pv 0)) (blkOk_by (N := n_copied) (sc := defScope s_copied) (by decide +kernel)) (fun _ _ _ _ _ => (pg_name (i := 1) sc_copied.nd rfl (.inl rfl))) (fun _ _ _ _ _ => pts_nil) (fun _ _ _ _ _ => (pe_fn G_with_lists (hr.mono (by omega)) (by rfl) pass0 (pa_cons (pv 1) (pa_cons (pe_lc (own := [("inner", 2)]) (g := (gName 2)) (by rfl) sc_copied.nd (show PI _ _ _ (iList K _) from pi_list (pe_fn G_lists_of (hr.mono (by omega)) (by rfl) pass0 (pa_cons (pv 1) pa_nil))) (blkOk_any (N := n_copied) (by decide +kernel)) (fun _ _ _ _ _ => (pg_name (i := 2) sc_copied.nd rfl (.inl rfl))) (fun _ _ _ _ _ => pts_nil) (fun _ _ _ _ _ => (pe_fn G_copied (hr.mono (by omega)) (by rfl) pass0 (pa_cons (pv 2) pa_nil)))) pa_nil))))))), ?_⟩
    refine ⟨_, rfl, a, rfl, ⟨_, SqL.of (S0 _ _ ha)⟩, fun D nD => ?_⟩
    have aD : a ≠ D := ne_of_none (S0 _ _ ha) nD
    refine lc_it (walk_list (K := K) (a := a) (xs := xs)) (fun i H' => Kp (· = D) (upd H D (.lst [])) H' ∧ ∃ ys, H' D = some (.lst ys) ∧ ys.length = i ∧ All2 (RowAt K (res (fun b => NL H b ∧ b ≠ D) H') d) (rows.take i) ys) ⟨Kp.refl _, [], upd_same, rfl, .nil⟩
      (fun i H' _ p => SqL.of (p.1 _ _ (by rw [upd_ne aD]; exact S0 _ _ ha) aD)) (fun i x H1 H2 hi p y => ?_) (fun H1 p => ?_)
    · obtain ⟨rfl, hx⟩ := y
      obtain ⟨kp, ys, hD, ly, hys⟩ := p
      obtain ⟨r, hrow, hra⟩ := hp.other hx
      have shr := sh r (List.mem_of_getElem? hrow)
      have SH : Same H H2 := fun b o e => kp b o (by rw [upd_ne (ne_of_none e nD)]; exact e) (ne_of_none e nD)
      refine ⟨rfl, ?_⟩
      refine tYes_ ?_
      refine iteT ?_
      cases d with
      | zero => exact nomatch r
      | succ e =>
        obtain ⟨⟨fs, hf, hk⟩, wl, fk, sk⟩ := id shr
        have S02 : Same H0 H2 := S0.trans SH
        refine ⟨_, rfl, _, rfl, x, H0, e, r, fs, rfl, hra, S02, hf, hk, fk, fun H3 L ls S3 nL hL hls => ?_⟩
        refine ⟨L, rfl, ⟨_, SqL.of hL⟩, fun D2 nD2 => ?_⟩
        have LD2 : L ≠ D2 := ne_of_none hL nD2
        have S03 := S02.trans S3
        have H2D2 : H2 D2 = none := S3.free nD2
        refine lc_it (walk_list (K := K) (a := L) (xs := ls)) (fun j H' => Kp (· = D2) (upd H3 D2 (.lst [])) H' ∧ ∃ zs, H' D2 = some (.lst zs) ∧ zs.length = j ∧ All2 (LstAt (res (fun b => NL H2 b ∧ b ≠ D2) H') (RowAt K (res (fun b => NL H2 b ∧ b ≠ D2) H') e)) ((kids r.2).take j) zs)
          ⟨Kp.refl _, [], upd_same, rfl, .nil⟩ (fun j H' _ q => SqL.of (q.1 _ _ (by rw [upd_ne LD2]; exact hL) LD2)) (fun j v H4 H5 hj q y => ?_) (fun H4 q => ?_)
        · obtain ⟨rfl, hv⟩ := y
          obtain ⟨kq, zs, hD2, lz, hzs⟩ := q
          obtain ⟨l, hl, c, cs, rfl, hc, hcs⟩ := hls.other hv
          obtain ⟨fl, sl⟩ := sk l (List.mem_of_getElem? hl)
          have SH3 : Same H3 H5 := fun b o e => kq b o (by rw [upd_ne (ne_of_none e nD2)]; exact e) (ne_of_none e nD2)
          refine ⟨rfl, ?_⟩
          refine tYes_ ?_
          refine iteT ?_
          refine ⟨_, rfl, c, H0, l, cs, rfl, hc, S03.trans SH3, hcs, fl, sl, fun H6 D3 cs' S6 nD3 hD3 hcs' => ?_⟩
          have D32 : D3 ≠ D2 := fun z => by rw [z, hD2] at nD3; cases nD3
          have H2D3 : H2 D3 = none := (S3.trans SH3).free nD3
          refine ⟨zs, S6 _ _ hD2, small1000 (by have := hls.len; omega), fun b o hb nb => ?_, _, upd_same, by simp [lz], ?_⟩
          · rw [upd_ne nb]
            exact S6 _ _ (kq b o hb nb)
          · have SR : ∀ o, Same (res (fun b => NL H2 b ∧ b ≠ D2) H5) (res (fun b => NL H2 b ∧ b ≠ D2) (upd H6 D2 o)) := fun o => same_res fun b u c e => ⟨c, by rw [upd_ne c.2]; exact S6 _ _ e⟩
            have SN : ∀ o, Same (res (NL H5) H6) (res (fun b => NL H2 b ∧ b ≠ D2) (upd H6 D2 o)) := fun o => same_res fun b u c e => by
              have nb : b ≠ D2 := fun z => by
                subst z
                exact c.no hD2 rfl
              exact ⟨⟨NL.of (S3.trans SH3) c, nb⟩, by rw [upd_ne nb]; exact e⟩
            rw [take_more hl]
            refine All2.app (hzs.imp fun x y _ q => LstAt.mono (SR _) (fun r v q => RowAt.mono (SR _) q) q) (All2.one ⟨D3, cs', rfl, ?_, hcs'.imp fun x y _ q => RowAt.mono (SN _) q⟩)
            rw [res_of (S := fun b => NL H2 b ∧ b ≠ D2) ⟨NL.new H2D3, D32⟩, upd_ne D32]
            exact hD3
        · obtain ⟨kq, zs, hD2, lz, hzs⟩ := q
          rw [← hls.len, List.take_length] at hzs
          have SH3 : Same H3 H4 := fun b o e => kq b o (by rw [upd_ne (ne_of_none e nD2)]; exact e) (ne_of_none e nD2)
          refine ⟨x, D2, H2, H0, res (fun b => NL H2 b ∧ b ≠ D2) H4, e, r, fs, zs, rfl, hra, S03.trans SH3, S3.trans SH3, res_same, fun b o h => (res_some h).1.1, hf, hk, by have := shr.parts; omega, fk, hD2, hzs, fun H6 t S6 hrow' => ?_⟩
          have S26 : Same H2 H6 := (S3.trans SH3).trans S6
          refine ⟨ys, S26 _ _ hD, small1000 (by have := hp.len; omega), fun b o hb nb => ?_, _, upd_same, by simp [ly], ?_⟩
          · rw [upd_ne nb]
            exact S26 _ _ (kp b o hb nb)
          · have SR : ∀ o, Same (res (fun b => NL H b ∧ b ≠ D) H2) (res (fun b => NL H b ∧ b ≠ D) (upd H6 D o)) := fun o => same_res fun b u c e => ⟨c, by rw [upd_ne c.2]; exact S26 _ _ e⟩
            have SN : ∀ o, Same (res (NL H2) H6) (res (fun b => NL H b ∧ b ≠ D) (upd H6 D o)) := fun o => same_res fun b u c e => by
              have nb : b ≠ D := fun z => by
                subst z
                exact c.no hD rfl
              exact ⟨⟨NL.of SH c, nb⟩, by rw [upd_ne nb]; exact e⟩
            rw [take_more hrow]
            exact All2.app (hys.imp fun x y _ q => RowAt.mono (SR _) q) (All2.one (RowAt.mono (SN _) hrow'))
    · obtain ⟨kp, ys, hD, ly, hys⟩ := p
      rw [← hp.len, List.take_length] at hys
      have SH : Same H H1 := fun b o e => kp b o (by rw [upd_ne (ne_of_none e nD)]; exact e) (ne_of_none e nD)
      refine k H1 D ys SH nD hD (hys.imp fun x y _ q => RowAt.mono (same_res fun b u c e => ⟨c.1, e⟩) q)
end
end OR

set_option Elab.async false
set_option maxRecDepth 100000
set_option maxHeartbeats 4000000
set_option linter.all false
namespace OR
open PySem PySem.Spec PyProof.Rows L2 TS2
/-- how many rows -/
def rsz : (d : Nat) → Row d → Nat
  | 0, r => nomatch r
  | d + 1, r => 1 + (((kids r.2).map fun l => (l.map (rsz d)).sum).sum)
def lsz (d : Nat) (rows : List (Row d)) : Nat := (rows.map (rsz d)).sum
def spSize (K : PySem.W.Frag) : Nat → Sp
  | 0 => fun _ _ _ _ => False
  | d + 1 => fun vs H Q _ => ∃ (v : V) (H0 : Hp) (r : Row d), vs = [v] ∧ Same H0 H ∧ RowAt K H0 d r v ∧ Shape d r ∧ rsz d r ≤ 3000 ∧ ∀ H', Same H H' → Q (.int (rsz d r)) H'
theorem sum_int (ns : List Nat) : (ns.map fun n : Nat => (n : Int)).sum = (ns.sum : Nat) := by
  induction ns with
  | nil => rfl
  | cons n ns ih => simp [ih]
/-- the numbers of the rows in the first lists -/
def szs (d : Nat) (ls : List (List (Row d))) : List Nat := (ls.map fun l => l.map (rsz d)).flatten
theorem szs_sum (d : Nat) (ls : List (List (Row d))) : (szs d ls).sum = (ls.map fun l => (l.map (rsz d)).sum).sum := by
  unfold szs
  induction ls with
  | nil => rfl
  | cons l ls ih => simp [ih]
theorem szs_snoc (d : Nat) (ls : List (List (Row d))) (l : List (Row d)) : szs d (ls ++ [l]) = szs d ls ++ l.map (rsz d) := by
  unfold szs
  rw [List.map_append, List.flatten_append]
  simp
theorem rsz_pos {d : Nat} (r : Row d) : 1 ≤ rsz d r := by
  cases d with
  | zero => exact nomatch r
  | succ e => simp [rsz]
theorem len_le_sum (ns : List Nat) (h : ∀ n ∈ ns, 1 ≤ n) : ns.length ≤ ns.sum := by
  induction ns with
  | nil => simp
  | cons n ns ih =>
    have h1 := h n List.mem_cons_self
    have h2 := ih fun m hm => h m (List.mem_cons_of_mem _ hm)
    simp; omega
theorem szs_pos {d : Nat} {ls : List (List (Row d))} : ∀ n ∈ szs d ls, 1 ≤ n := fun n hn => by
  unfold szs at hn
  rw [List.mem_flatten] at hn
  obtain ⟨l, hl, hn⟩ := hn
  rw [List.mem_map] at hl
  obtain ⟨l', _, rfl⟩ := hl
  rw [List.mem_map] at hn
  obtain ⟨r, _, rfl⟩ := hn
  exact rsz_pos r
theorem szs_take_le {d : Nat} (ls : List (List (Row d))) (j : Nat) : (szs d (ls.take j)).length ≤ (szs d ls).length := by
  conv => rhs; rw [← List.take_append_drop j ls]
  unfold szs
  rw [List.map_append, List.flatten_append, List.length_append]
  omega
theorem mem_le_sum {ns : List Nat} {n : Nat} (h : n ∈ ns) : n ≤ ns.sum := by
  induction ns with
  | nil => simp at h
  | cons m ns ih =>
    rcases List.mem_cons.mp h with rfl | h
    · simp
    · have := ih h
      simp; omega
section
variable {P : Program} {w : World} {K : PySem.W.Frag} {mg : Str → Option Value} {base : Heap}
theorem ok_size_of {k0 d : Nat} {f : Addr} {fd : FuncData} (F : FnP K "size_of" "size_of" s_size_of f fd) (T : Tx w K mg) (h1 : 1 ≤ k0) (G_lists_of : Def P w K mg base CX0 1 "lists_of" p_lists_of (spListsOf K))
    (G_size_of : Def P w K mg base CX0 k0 "size_of" p_size_of (spSize K d)) : FnOk P w K mg base CX0 (k0 + 1) f fd p_size_of (spSize K (d + 1)) := by
  refine F.ok sc_size_of (fun vs H Q E h => ?_) (fun cdv A outer s H vs Q E hr h => ?_)
  · obtain ⟨v, _, _, rfl, _⟩ := h
    rfl
  · obtain ⟨v, H0, r, rfl, S0, hra, sh, few, k⟩ := h
    refine ⟨_, PSs.nox (pss_one (ps_ret (pe_op op_add pe_int (pe_callB (cr_sum rfl) (by rfl) T.b_sum (by decide +kernel) (pa_cons (pe_lc2 (own := [("rows", 1), ("inner", 2)]) (g := (gName 1)) (g1 := (gName 2)) (wi1 := iList K (tVar 1)) (vs1 := [2]) rfl sc_size_of.nd (pi_list (pe_fn G_lists_of (hr.mono (by omega)) (by rfl) pass0 (pa_cons (pv 0) pa_nil))) (blkOk_by (N := n_size_of) (sc := defScope s_size_of) (by decide +kernel)) (by decide) (fun _ _ _ _ _ => (pg_name (i := 1) sc_size_of.nd rfl (.inl rfl))) (fun _ _ _ _ _ => pts_nil) (fun _ _ _ _ _ => (pi_list (pv 1))) (fun _ _ _ _ _ => (pg_name (i := 2) sc_size_of.nd rfl (.inl rfl))) (fun _ _ _ _ _ => pts_nil) (fun _ _ _ _ _ => (pe_fn G_size_of (hr.mono (by omega)) (by rfl) pass0 (pa_cons (pv 2) pa_nil)))) pa_nil))))), ?_⟩
    cases d with
    | zero => exact nomatch r
    | succ e =>
      obtain ⟨⟨fs, hf, hk⟩, wl, fk, sk⟩ := id sh
      have es : rsz (e + 1) r = 1 + (szs e (kids r.2)).sum := by rw [szs_sum]; rfl
      have all : (szs e (kids r.2)).length ≤ 3000 := by have := len_le_sum _ (szs_pos (ls := kids r.2)); omega
      refine ⟨_, rfl, v, H0, e, r, fs, rfl, hra, S0, hf, hk, fk, fun H1 L ls S1 nL hL hls => ?_⟩
      refine ⟨L, rfl, ⟨_, SqL.of hL⟩, fun D nD => ?_⟩
      have LD : L ≠ D := ne_of_none hL nD
      have S01 := S0.trans S1
      have keep : ∀ {H' : Hp}, Kp (· = D) (upd H1 D (.lst [])) H' → Same H1 H' := fun k b o e => k b o (by rw [upd_ne (ne_of_none e nD)]; exact e) (ne_of_none e nD)
      refine out_it (walk_list (K := K) (a := L) (xs := ls)) (fun j H' => Kp (· = D) (upd H1 D (.lst [])) H' ∧ H' D = some (.lst (((szs e ((kids r.2).take j)).map fun n : Nat => V.int n)))) ⟨Kp.refl _, by rw [upd_same]; rfl⟩
        (fun j H' _ q => SqL.of (q.1 _ _ (by rw [upd_ne LD]; exact hL) LD)) (fun j x H2 H3 hj q y => ?_) (fun H2 q => ?_)
      · obtain ⟨rfl, hv⟩ := y
        obtain ⟨kq, hD⟩ := q
        obtain ⟨l, hl, c, cs, rfl, hc, hcs⟩ := hls.other hv
        obtain ⟨fl, sl⟩ := sk l (List.mem_of_getElem? hl)
        have tl := szs_take_le (kids r.2) (j + 1)
        rw [take_more hl, szs_snoc, List.length_append] at tl
        refine ⟨rfl, ?_⟩
        refine tYes_ ?_
        refine iteT ?_
        refine ⟨_, rfl, c, rfl, ⟨_, SqL.of ((S01.trans (keep kq)) _ _ hc)⟩, ?_⟩
        refine out_it (walk_list (K := K) (a := c) (xs := cs)) (fun i H' => Kp (· = D) (upd H1 D (.lst [])) H' ∧ H' D = some (.lst ((szs e ((kids r.2).take j) ++ (l.take i).map (rsz e)).map fun n : Nat => V.int n))) ⟨kq, by rw [hD]; simp⟩
          (fun i H' _ q => SqL.of ((S01.trans (keep q.1)) _ _ hc)) (fun i x H4 H5 hi q y => ?_) (fun H4 q => ?_)
        · obtain ⟨rfl, hx⟩ := y
          obtain ⟨kp, hD4⟩ := q
          obtain ⟨r', hr', hra'⟩ := hcs.other hx
          have le1 : rsz e r' ≤ 3000 := by
            have m : rsz e r' ∈ szs e (kids r.2) := by
              unfold szs
              rw [List.mem_flatten]
              exact ⟨_, List.mem_map.mpr ⟨l, List.mem_of_getElem? hl, rfl⟩, List.mem_map.mpr ⟨r', List.mem_of_getElem? hr', rfl⟩⟩
            have := mem_le_sum m
            omega
          refine ⟨rfl, ?_⟩
          refine tYes_ ?_
          refine iteT ?_
          refine ⟨_, rfl, x, H0, r', rfl, S01.trans (keep kp), hra', sl r' (List.mem_of_getElem? hr'), le1, fun H6 S6 => ?_⟩
          refine ⟨_, S6 _ _ hD4, Nat.lt_of_le_of_lt (m := 3000) ?_ (by decide), fun b o hb nb => ?_, ?_⟩
          · have : (l.take i).length ≤ l.length := by rw [List.length_take]; omega
            rw [List.length_map, List.length_append, List.length_map]
            rw [List.length_map] at tl
            omega
          · rw [upd_ne nb]
            exact S6 _ _ (kp b o hb nb)
          · rw [upd_same, take_more hr', List.map_append, List.map_append]
            simp
        · obtain ⟨kp, hD4⟩ := q
          refine ⟨kp, ?_⟩
          rw [hD4, take_more hl, szs_snoc, ← hcs.len, List.take_length]
      · obtain ⟨kq, hD⟩ := q
        rw [← hls.len, List.take_length] at hD
        refine ⟨D, (szs e (kids r.2)).map fun n : Nat => (n : Int), rfl, SqL.of (by rw [hD, List.map_map]; rfl), ?_⟩
        refine ⟨_, _, rfl, rfl, ?_⟩
        have ee : (1 : Int) + ((szs e (kids r.2)).map fun n : Nat => (n : Int)).sum = (rsz (e + 1) r : Nat) := by rw [sum_int, es]; simp
        show Q (.int (1 + ((szs e (kids r.2)).map fun n : Nat => (n : Int)).sum)) H2
        rw [ee]
        exact k H2 (S1.trans (keep kq))
end
end OR

set_option Elab.async false
set_option maxRecDepth 100000
set_option maxHeartbeats 4000000
set_option linter.all false
namespace OR
open PySem PySem.Spec PyProof.Rows L2 TS2
def hasK (kvs : List (Key × V)) (z : Str) : Bool := (valV kvs (Sum.inr z : Key)).isSome
def onWord {R : Type} (g : Str → Bool) : Pt R → Bool
  | .word z => isWord z && g z
  | _ => false
def onWords {R : Type} (g : List Str → Bool) : Pt R → Bool
  | .words l => g l
  | _ => false
def isRows {R : Type} : Pt R → Bool
  | .rows _ => true
  | _ => false
def onSides {R : Type} : Pt R → Bool
  | .sides ls => decide (ls.length = 2 ∨ ls.length = 3)
  | _ => false
/-- a part fits its form; ka, ks: the tables of asks and of signals -/
def fit {R : Type} (ka ks : List (Key × V)) (f : Str) (p : Pt R) : Bool :=
  if f = "ask" then onWord (hasK ka) p
  else if f = "signal" then onWord (hasK ks) p
  else if f = "slot" then onWord (fun z => decide (z ≠ "in")) p
  else if f = "labels" ∨ f = "words" then onWords (areW 3) p
  else if f = "rows" then isRows p
  else if f = "sides" then onSides p
  else onWord (fun _ => true) p
/-- what is asked of a part so that the code's answer about it is known -/
def Nice {R : Type} (f : Str) (p : Pt R) : Prop := (∀ z ∈ wordsP p, z.length ≤ 1000) ∧ (wordsP p).length ≤ 100 ∧ (kidsP p).length ≤ 100 ∧ ((f = "labels" ∨ f = "words") → ∀ ls, p ≠ .sides ls) ∧ (f = "sides" → ∀ l, p ≠ .words l)
def hasForm {R : Type} (ed : Bool) (ka ks : List (Key × V)) (w : Str) (fs : List Str) (ps : List (Pt R)) : Bool := !(decide (w = "edit") && !ed) && (decide (ps.length = fs.length) && ((fs.zip ps).map fun x => fit ka ks x.1 x.2).all id)
def mayS (w : Str) (n : Nat) (il : Bool) (k : Nat) : Bool := if w = "leave" then il else (decide ((n + 1) / 2 < 5) || decide (k = 0))
/-- the row check: edits seen, gates seen -/
abbrev Sn : Type := List (Key × V) × List (Key × V)
def firstW {R : Type} : List (Pt R) → Str
  | .word z :: _ => z
  | _ => ""
def isNew {R : Type} (fs : List Str) (ps : List (Pt R)) (st : Sn) : Bool × Sn :=
  if ("edit" : Str) ∈ fs then (!hasK st.1 (firstW ps) && !hasK st.2 (firstW ps), (putK st.1 (Sum.inr (firstW ps)) (.bl true), st.2))
  else if ("gate" : Str) ∈ fs then (!hasK st.1 (firstW ps), (st.1, putK st.2 (Sum.inr (firstW ps)) (.bl true)))
  else (true, st)
def rcF (a s : Addr) (b : Bool) (e g : Addr) : List (Str × V) := [("ask_table", .ref a), ("signal_table", .ref s), ("with_edits", .bl b), ("seen_edits", .ref e), ("seen_gates", .ref g)]
/-- a row check at p: its tables, what it has seen -/
structure RC (K : PySem.W.Frag) (H : Hp) (p : Addr) (ed : Bool) (ka ks : List (Key × V)) (st : Sn) (a s e g dx : Addr) : Prop where
  ob : H p = some (.ins (He.ga K "RowCheck") dx (rcF a s ed e g))
  ha : H a = some (.dK ka)
  hs : H s = some (.dK ks)
  he : H e = some (.dK st.1)
  hg : H g = some (.dK st.2)
  eg : e ≠ g
  ea : a ≠ e ∧ a ≠ g ∧ s ≠ e ∧ s ≠ g
theorem RC.same {K : PySem.W.Frag} {H H' : Hp} {p : Addr} {ed : Bool} {ka ks : List (Key × V)} {st : Sn} {a s e g dx : Addr} (c : RC K H p ed ka ks st a s e g dx) (S : Same H H') : RC K H' p ed ka ks st a s e g dx :=
  ⟨S _ _ c.ob, S _ _ c.ha, S _ _ c.hs, S _ _ c.he, S _ _ c.hg, c.eg, c.ea⟩
def spSides (K : PySem.W.Frag) : Sp := fun vs H Q _ => ∃ v, vs = [v] ∧ ((∃ a ws, v = .ref a ∧ SqT K H a ws ∧ ws.length ≤ 1000 ∧ (∀ x ∈ ws, ∃ c cs, x = .ref c ∧ H c = some (.lst cs)) ∧ ∀ H', Same H H' → Q (.bl (decide (ws.length = 2 ∨ ws.length = 3))) H') ∨ (NotA K H v "tuple" ∧ Q (.bl false) H))
def spMay (K : PySem.W.Frag) : Sp := fun vs H Q _ => ∃ (v : V) (t : Addr) (il : Bool) (H0 : Hp) (d : Nat) (r : Row (d + 1)) (fs : List Str) (ns : List V), vs = [v, .ref t, .bl il] ∧ SqT K H t ns ∧ ns.length ≤ 100 ∧ RowAt K H0 (d + 1) r v ∧ Same H0 H ∧ (r.1, fs) ∈ ftab ∧ KindsOk fs r.2 ∧ (kids r.2).length ≤ 1000 ∧
  ∀ H', Same H H' → Q (.bl (mayS r.1 ns.length il (kids r.2).length)) H'
def spFits (K : PySem.W.Frag) : Sp := fun vs H Q _ => ∃ (p : Addr) (f : Str) (v : V) (d : Nat) (H0 : Hp) (pt : Pt (Row d)) (ed : Bool) (ka ks : List (Key × V)) (st : Sn) (a s e g dx : Addr), vs = [.ref p, .str f, v] ∧ RC K H p ed ka ks st a s e g dx ∧ PtAt K H0 (RowAt K H0 d) pt v ∧ Same H0 H ∧ Nice f pt ∧
  ∀ H', Same H H' → Q (.bl (fit ka ks f pt)) H'
def spHasForm (K : PySem.W.Frag) : Sp := fun vs H Q _ => ∃ (p : Addr) (v : V) (d : Nat) (H0 : Hp) (r : Row (d + 1)) (fs : List Str) (ed : Bool) (ka ks : List (Key × V)) (st : Sn) (a s e g dx : Addr), vs = [.ref p, v] ∧ RC K H p ed ka ks st a s e g dx ∧ RowAt K H0 (d + 1) r v ∧ Same H0 H ∧
  (r.1, fs) ∈ ftab ∧ (∀ x ∈ fs.zip r.2, Nice x.1 x.2) ∧ r.2.length ≤ 1000 ∧ ∀ H', Same H H' → Q (.bl (hasForm ed ka ks r.1 fs r.2)) H'
def spIsNew (K : PySem.W.Frag) : Sp := fun vs H Q _ => ∃ (p : Addr) (v : V) (d : Nat) (H0 : Hp) (r : Row (d + 1)) (fs : List Str) (ed : Bool) (ka ks : List (Key × V)) (st : Sn) (a s e g dx : Addr), vs = [.ref p, v] ∧ RC K H p ed ka ks st a s e g dx ∧ RowAt K H0 (d + 1) r v ∧ Same H0 H ∧
  H0 e = none ∧ H0 g = none ∧ (r.1, fs) ∈ ftab ∧ KindsOk fs r.2 ∧ st.1.length ≤ 5000 ∧ st.2.length ≤ 5000 ∧ ∀ H', Kp (fun b => b = e ∨ b = g) H H' → RC K H' p ed ka ks (isNew fs r.2 st).2 a s e g dx → Q (.bl (isNew fs r.2 st).1) H'
theorem PtAt.ty {K : PySem.W.Frag} {R : Type} {H : Hp} {RA : R → V → Prop} {p : Pt R} {v : V} (h : PtAt K H RA p v) : (∃ z, p = .word z ∧ v = .str z) ∨ (∃ ty, TyX K H v ty ∧ PySem.W.kitOne K ty (.type "str") = some false) := by
  cases p with
  | word z => exact .inl ⟨z, rfl, h⟩
  | words l =>
    obtain ⟨a, rfl, ha⟩ := h
    exact .inr ⟨_, tyT ha, kit_ty (by decide +kernel)⟩
  | rows l =>
    obtain ⟨a, xs, rfl, ha, _⟩ := h
    exact .inr ⟨_, tyL (SqL.of ha), kit_ty (by decide +kernel)⟩
  | sides ls =>
    obtain ⟨a, vs, rfl, ha, _⟩ := h
    exact .inr ⟨_, tyT ha, kit_ty (by decide +kernel)⟩
section
variable {P : Program} {w : World} {K : PySem.W.Frag} {mg : Str → Option Value} {base : Heap}
theorem ok_are_sides {f : Addr} {fd : FuncData} (F : FnP K "are_sides" "are_sides" s_are_sides f fd) (T : Tx w K mg) : FnOk P w K mg base CX0 1 f fd p_are_sides (spSides K) := by
  refine F.ok sc_are_sides (fun vs H Q E h => ?_) (fun cdv A outer s H vs Q E hr h => ?_)
  · obtain ⟨v, rfl, _⟩ := h
    rfl
  · obtain ⟨v, rfl, h⟩ := h
    refine ⟨_, PSs.nox (pss_cons (ps_if (PW.pt (pw_or (pt_not (pt_val (pe_callB call_isi (by rfl) T.b_isinstance (by decide +kernel) (pa_cons (pv 0) (pa_cons (pe_bltn (v := .ty "tuple") (u := .type "tuple") (by rfl) T.b_tuple (by decide +kernel) rfl) pa_nil))))) (pw_or1 (pt_cmpR op_notIn_seq (pe_callB call_len_seq (by rfl) T.b_len PySem.boot_len (pa_cons (pv 0) pa_nil)) (pe_tup (pa_cons pe_int (pa_cons pe_int pa_nil))) (by rfl))))) (pss_one (ps_ret pe_bl)) pss_nil)
      (pss_one (ps_ret (pe_callB (cr_all rfl) (by rfl) T.b_all (by decide +kernel) (pa_cons (pe_lc (own := [("side", 1)]) (g := (gName 1)) (by rfl) sc_are_sides.nd (pi_tup (pv 0)) (blkOk_by (N := n_are_sides) (sc := defScope s_are_sides) (by decide +kernel)) (fun _ _ _ _ _ => (pg_name (i := 1) sc_are_sides.nd rfl (.inl rfl))) (fun _ _ _ _ _ => pts_nil) (fun _ _ _ _ _ => (pe_callB (show CallR _ (.builtin "isinstance") (rIsi K) from call_isi) (by rfl) T.b_isinstance (by decide +kernel) (pa_cons (pv 1) (pa_cons (pe_bltn (v := .ty "list") (u := .type "list") (by rfl) T.b_list (by decide +kernel) rfl) pa_nil))))) pa_nil))))), ?_⟩
    rcases h with ⟨a, ws, rfl, ha, few, hl, k⟩ | ⟨⟨ty, n1, n2⟩, k⟩
    rotate_left
    · refine ⟨_, rfl, v, .ty "tuple", _, _, false, rfl, .ty _, n1, n2, _, rfl, ?_⟩
      refine iteT ?_
      refine iteT ?_
      exact k
    refine ⟨_, rfl, .ref a, .ty "tuple", _, _, true, rfl, .ty _, tyT ha, kit_ty (by decide +kernel), _, rfl, ?_⟩
    refine iteF ?_
    refine ⟨_, rfl, a, _, rfl, .inr ha, by show 2 ≤ sizeLine; decide, fun t nt => ?_⟩
    refine ⟨t, _, rfl, .inr (SqT.of upd_same), rfl, rfl, _, rfl, ?_⟩
    have S1 : Same H (upd H t (.tup [.int 2, .int 3])) := Same.new nt
    have e1 : (if true = true then !inV (.int ws.length) [.int 2, .int 3] else inV (.int ws.length) [.int 2, .int 3]) = !decide (ws.length = 2 ∨ ws.length = 3) := by
      rw [if_pos rfl]
      congr 1
      have e2 : inV (.int ws.length) [.int 2, .int 3] = ((2 : Int) == (ws.length : Int) || ((3 : Int) == (ws.length : Int) || false)) := rfl
      rw [e2]
      by_cases c : ws.length = 2
      · simp [c]
      · by_cases c' : ws.length = 3
        · simp [c']
        · have h1 : ((2 : Int) == (ws.length : Int)) = false := by simp; omega
          have h2 : ((3 : Int) == (ws.length : Int)) = false := by simp; omega
          simp [h1, h2, c, c']
    generalize upd H t (.tup [.int 2, .int 3]) = H1 at S1 ⊢
    rw [e1]
    cases c : decide (ws.length = 2 ∨ ws.length = 3) with
    | false =>
      refine iteT ?_
      rw [c] at k
      exact k H1 S1
    | true =>
      refine iteF ?_
      rw [c] at k
      refine ⟨_, rfl, a, rfl, ⟨_, sameT S1 ha⟩, fun D nD => ?_⟩
      refine lc_it (walk_tup (K := K) (a := a) (xs := ws)) (fun i H' => Same H1 H' ∧ H' D = some (.lst ((List.replicate i true).map V.bl))) ⟨Same.new nD, upd_same⟩ (fun i H' _ q => sameT (S1.trans q.1) ha) (fun i x H2 H3 hi p y => ?_) (fun H2 p => ?_)
      · obtain ⟨rfl, hx⟩ := y
        obtain ⟨S, hD⟩ := p
        obtain ⟨cc, cs, rfl, hc⟩ := hl x (List.mem_of_getElem? hx)
        refine ⟨rfl, ?_⟩
        refine tYes_ ?_
        refine iteT ?_
        refine ⟨_, rfl, .ref cc, .ty "list", _, _, true, rfl, .ty _, tyL (SqL.of (S _ _ (S1 _ _ hc))), kit_ty (by decide +kernel), ?_⟩
        refine ⟨_, hD, small1000 (by rw [List.length_map, List.length_replicate]; omega), fun b o hb => ?_, ?_⟩
        · rw [upd_ne (ne_of_none hb nD)]
          exact S _ _ hb
        · rw [upd_same, List.replicate_succ', List.map_append]
          rfl
      · obtain ⟨S, hD⟩ := p
        refine ⟨D, List.replicate ws.length true, rfl, SqL.of hD, ?_⟩
        have e3 : (List.replicate ws.length true).all id = true := by simp
        rw [e3]
        exact k _ (S1.trans S)
theorem ok_may_stand {f : Addr} {fd : FuncData} (F : FnP K "may_stand" "may_stand" s_may_stand f fd) (T : Tx w K mg) (G_lists_of : Def P w K mg base CX0 1 "lists_of" p_lists_of (spListsOf K)) : FnOk P w K mg base CX0 2 f fd p_may_stand (spMay K) := by
  refine F.ok sc_may_stand (fun vs H Q E h => ?_) (fun cdv A outer s H vs Q E hr h => ?_)
  · obtain ⟨v, t, il, _, _, _, _, _, rfl, _⟩ := h
    rfl
  · obtain ⟨v, t, il, H0, d, r, fs, ns, rfl, ht, few, hra, S0, hf, hk, fk, k⟩ := h
    obtain ⟨a, vs, rfl, ha, hp⟩ := id hra
    obtain ⟨t5, mDEEPEST⟩ := T.m_DEEPEST
    refine ⟨_, PSs.nox (pss_cons (ps_if (pt_cmpR op_eq (pe_ix ix_tup (pv 0) pe_int (fun _ _ => rfl)) pe_str (nomark _)) (pss_one (ps_ret (pv 2))) pss_nil)
      (pss_cons (ps_set (i := 3) sc_may_stand.nd rfl (.inl rfl) (pe_op op_fdivN (pe_op op_add (pe_callB call_len_seq (by rfl) T.b_len PySem.boot_len (pa_cons (pv 1) pa_nil)) pe_int) pe_int))
      (pss_one (ps_ret (pe_or (pe_cmpR op_lt (pv 3) (pe_glob (by rfl) mDEEPEST (show RelV (.int (5)) _ from ⟨_, rfl⟩)) (nomark _)) (pe_one (pe_cmpR op_eq (pe_callB call_len_seq (by rfl) T.b_len PySem.boot_len (pa_cons (pe_fn G_lists_of (hr.mono (by decide)) (by rfl) pass0 (pa_cons (pv 0) pa_nil)) pa_nil)) pe_int (nomark _)))))))), ?_⟩
    refine ⟨_, rfl, a, _, _, .str r.1, rfl, rfl, sameT S0 ha, at0, rfl, _, rfl, ?_⟩
    by_cases c : r.1 = "leave"
    · refine iteT' (decide_eq_true (by rw [c])) ?_
      have e : mayS r.1 ns.length il (kids r.2).length = il := by unfold mayS; rw [if_pos c]
      rw [e] at k
      exact ⟨_, rfl, k H (Same.refl H)⟩
    · refine iteF' (decide_eq_false fun z => c (by injection z)) ?_
      have e : mayS r.1 ns.length il (kids r.2).length = (decide ((ns.length + 1) / 2 < 5) || decide ((kids r.2).length = 0)) := by unfold mayS; rw [if_neg c]
      rw [e] at k
      refine ⟨_, rfl, t, _, rfl, .inr ht, _, _, rfl, rfl, _, _, rfl, rfl, ⟨by decide, by decide⟩, ?_⟩
      refine ⟨_, rfl, _, _, rfl, rfl, _, rfl, ?_⟩
      have e2 : (((ns.length : Int) + 1).fdiv 2 < 5) ↔ ((ns.length + 1) / 2 < 5) := by
        have : ((ns.length : Int) + 1).fdiv 2 = (((ns.length + 1) / 2 : Nat) : Int) := by
          rw [Int.fdiv_eq_ediv_of_nonneg _ (by decide)]
          omega
        rw [this]
        omega
      cases c2 : decide ((ns.length + 1) / 2 < 5) with
      | true =>
        have c3 : decide (((ns.length : Int) + 1).fdiv 2 < 5) = true := decide_eq_true (e2.mpr (of_decide_eq_true c2))
        rw [c2] at k
        refine iteT' c3 ?_
        exact k H (Same.refl H)
      | false =>
        have c3 : decide (((ns.length : Int) + 1).fdiv 2 < 5) = false := decide_eq_false fun z => of_decide_eq_false c2 (e2.mp z)
        rw [c2] at k
        refine iteF' c3 ?_
        refine ⟨_, rfl, _, H0, d, r, fs, rfl, hra, S0, hf, hk, fk, fun H1 D ls S1 nD hD hls => ?_⟩
        refine ⟨D, _, rfl, .inl (SqL.of hD), rfl, ?_⟩
        have e4 : decide (V.int ls.length = V.int 0) = (false || decide ((kids r.2).length = 0)) := by
          have l := hls.len
          by_cases z : (kids r.2).length = 0
          · have z' : ls.length = 0 := by omega
            simp [z, z']
          · have z' : ¬ ls.length = 0 := by omega
            simp [z, z']
        rw [e4]
        exact k H1 S1
end
end OR

set_option Elab.async false
set_option maxRecDepth 100000
set_option maxHeartbeats 4000000
set_option linter.all false
namespace OR
open PySem PySem.Spec PyProof.Rows L2 TS2
def wordR {R : Type} : Pt R → Bool
  | .word z => isWord z
  | _ => false
theorem is_w {K : PySem.W.Frag} {R : Type} {H0 H : Hp} {RA : R → V → Prop} {p : Pt R} {v : V} {Q : VK} {E : XK} (h : PtAt K H0 RA p v) (S : Same H0 H) (n : ∀ z ∈ wordsP p, z.length ≤ 1000) (k : ∀ H', Same H H' → Q (.bl (wordR p)) H') : spIsWord K [v] H Q E := by
  have h : PtAt K H RA p v := PtAt.mono S (fun _ _ q => q) h
  cases p with
  | word z => exact .inl ⟨z, by rw [show v = .str z from h], Nat.le_of_lt (small1000 (n z List.mem_cons_self)), k⟩
  | words l =>
    obtain ⟨a, rfl, ha⟩ := h
    exact .inr ⟨_, rfl, ⟨_, tyT ha, kit_ty (by decide +kernel)⟩, k H (Same.refl H)⟩
  | rows l =>
    obtain ⟨a, xs, rfl, ha, _⟩ := h
    exact .inr ⟨_, rfl, ⟨_, tyL (SqL.of ha), kit_ty (by decide +kernel)⟩, k H (Same.refl H)⟩
  | sides ls =>
    obtain ⟨a, vs, rfl, ha, _⟩ := h
    exact .inr ⟨_, rfl, ⟨_, tyT ha, kit_ty (by decide +kernel)⟩, k H (Same.refl H)⟩
section
variable {P : Program} {w : World} {K : PySem.W.Frag} {mg : Str → Option Value} {base : Heap}
theorem ok_fits {f : Addr} {fd : FuncData} (F : FnP K "fits" "RowCheck.fits" s_RowCheck_fits f fd) (T : Tx w K mg) (G_is_word : Def P w K mg base CX0 1 "is_word" p_is_word (spIsWord K)) (G_are_words : Def P w K mg base CX0 2 "are_words" p_are_words (spAreWords K))
    (G_are_sides : Def P w K mg base CX0 1 "are_sides" p_are_sides (spSides K)) : FnOk P w K mg base CX0 3 f fd p_RowCheck_fits (spFits K) := by
  refine F.ok sc_RowCheck_fits (fun vs H Q E h => ?_) (fun cdv A outer s H vs Q E hr h => ?_)
  · obtain ⟨p, f, v, _, _, _, _, _, _, _, _, _, _, _, _, rfl, _⟩ := h
    rfl
  · obtain ⟨p, fm, v, d, H0, pt, ed, ka, ks, st, a, s', e, g, dx, rfl, rc, hp, S0, ⟨nw, nf, nk, n1, n2⟩, k⟩ := h
    have hu := hu_of hr
    obtain ⟨t1, mINPUT_SLOT⟩ := T.m_INPUT_SLOT
    obtain ⟨t2, mMOST_IN_ROW⟩ := T.m_MOST_IN_ROW
    refine ⟨_, PSs.nox (pss_cons (ps_if (pt_cmpR op_eq (pv 1) pe_str (nomark _)) (pss_one (ps_ret (pe_and (pe_fn G_is_word (hr.mono (by decide)) (by rfl) pass0 (pa_cons (pv 2) pa_nil)) (pe_one (pe_cmp (pc_din hu (pv 2) (pe_fld (pv 0) rfl))))))) pss_nil)
      (pss_cons (ps_if (pt_cmpR op_eq (pv 1) pe_str (nomark _)) (pss_one (ps_ret (pe_and (pe_fn G_is_word (hr.mono (by decide)) (by rfl) pass0 (pa_cons (pv 2) pa_nil)) (pe_one (pe_cmp (pc_din hu (pv 2) (pe_fld (pv 0) rfl))))))) pss_nil)
      (pss_cons (ps_if (pt_cmpR op_eq (pv 1) pe_str (nomark _)) (pss_one (ps_ret (pe_and (pe_fn G_is_word (hr.mono (by decide)) (by rfl) pass0 (pa_cons (pv 2) pa_nil)) (pe_one (pe_cmpR op_ne (pv 2) (pe_glob (by rfl) mINPUT_SLOT (show RelV (.str "in") _ from ⟨_, rfl⟩)) (nomark _)))))) pss_nil)
      (pss_cons (ps_if (pt_cmpR op_in_seq (pv 1) (pe_tup (pa_cons pe_str (pa_cons pe_str pa_nil))) (by rfl)) (pss_one (ps_ret (pe_fn G_are_words (hr.mono (by decide)) (by rfl) pass0 (pa_cons (pv 2) (pa_cons (pe_glob (by rfl) mMOST_IN_ROW (show RelV (.int (3)) _ from ⟨_, rfl⟩)) pa_nil))))) pss_nil)
      (pss_cons (ps_if (pt_cmpR op_eq (pv 1) pe_str (nomark _)) (pss_one (ps_ret (pe_callB call_isi (by rfl) T.b_isinstance (by decide +kernel) (pa_cons (pv 2) (pa_cons (pe_bltn (v := .ty "list") (u := .type "list") (by rfl) T.b_list (by decide +kernel) rfl) pa_nil))))) pss_nil)
      (pss_cons (ps_if (pt_cmpR op_eq (pv 1) pe_str (nomark _)) (pss_one (ps_ret (pe_fn G_are_sides (hr.mono (by decide)) (by rfl) pass0 (pa_cons (pv 2) pa_nil)))) pss_nil)
      (pss_one (ps_ret (pe_fn G_is_word (hr.mono (by decide)) (by rfl) pass0 (pa_cons (pv 2) pa_nil)))))))))), ?_⟩
    have hpH : PtAt K H (RowAt K H0 d) pt v := PtAt.mono S0 (fun _ _ q => q) hp
    refine ⟨_, rfl, rfl, _, rfl, ?_⟩
    by_cases c1 : fm = "ask"
    · have ef : fit ka ks fm pt = onWord (hasK ka) pt := by unfold fit; rw [if_pos c1]
      refine iteT' (decide_eq_true (by rw [c1])) ?_
      refine ⟨_, rfl, ?_⟩
      dsimp only [tNil, List.append_nil]
      refine is_w hp S0 nw (fun H1 S1 => ?_)
      refine ⟨_, rfl, ?_⟩
      have rc1 := rc.same S1
      cases pt with
      | word z =>
        cases (show v = .str z from hp)
        have k1 : Q (.bl (isWord z && hasK ka z)) H1 := by
          have q := k H1 S1
          rw [ef] at q
          exact q
        show if isWord z = true then _ else _
        cases ew : isWord z with
        | false =>
          rw [ew] at k1
          exact iteF k1
        | true =>
          rw [ew] at k1
          exact iteT ⟨_, rfl, _, rfl, p, _, dx, _, .ref a, rfl, rc1.ob, T.c_RowCheck, T.n_RowCheck_ask_table, rfl, a, _, rfl, DGet.k (k := .inr z) rc1.ha, k1⟩
      | words l => rw [ef] at k; exact iteF (k H1 S1)
      | rows l => rw [ef] at k; exact iteF (k H1 S1)
      | sides l => rw [ef] at k; exact iteF (k H1 S1)
    refine iteF' (decide_eq_false fun z => c1 (by injection z)) ?_
    refine ⟨_, rfl, rfl, _, rfl, ?_⟩
    by_cases c2 : fm = "signal"
    · have ef : fit ka ks fm pt = onWord (hasK ks) pt := by unfold fit; rw [if_neg c1, if_pos c2]
      refine iteT' (decide_eq_true (by rw [c2])) ?_
      refine ⟨_, rfl, ?_⟩
      dsimp only [tNil, List.append_nil]
      refine is_w hp S0 nw (fun H1 S1 => ?_)
      refine ⟨_, rfl, ?_⟩
      have rc1 := rc.same S1
      cases pt with
      | word z =>
        cases (show v = .str z from hp)
        have k1 : Q (.bl (isWord z && hasK ks z)) H1 := by
          have q := k H1 S1
          rw [ef] at q
          exact q
        show if isWord z = true then _ else _
        cases ew : isWord z with
        | false =>
          rw [ew] at k1
          exact iteF k1
        | true =>
          rw [ew] at k1
          exact iteT ⟨_, rfl, _, rfl, p, _, dx, _, .ref s', rfl, rc1.ob, T.c_RowCheck, T.n_RowCheck_signal_table, rfl, s', _, rfl, DGet.k (k := .inr z) rc1.hs, k1⟩
      | words l => rw [ef] at k; exact iteF (k H1 S1)
      | rows l => rw [ef] at k; exact iteF (k H1 S1)
      | sides l => rw [ef] at k; exact iteF (k H1 S1)
    refine iteF' (decide_eq_false fun z => c2 (by injection z)) ?_
    refine ⟨_, rfl, rfl, _, rfl, ?_⟩
    by_cases c3 : fm = "slot"
    · have ef : fit ka ks fm pt = onWord (fun z => decide (z ≠ "in")) pt := by unfold fit; rw [if_neg c1, if_neg c2, if_pos c3]
      refine iteT' (decide_eq_true (by rw [c3])) ?_
      refine ⟨_, rfl, ?_⟩
      dsimp only [tNil, List.append_nil]
      refine is_w hp S0 nw (fun H1 S1 => ?_)
      refine ⟨_, rfl, ?_⟩
      cases pt with
      | word z =>
        cases (show v = .str z from hp)
        have k1 : Q (.bl (isWord z && (fun z : Str => decide (z ≠ "in")) z)) H1 := by
          have q := k H1 S1
          rw [ef] at q
          exact q
        show if isWord z = true then _ else _
        cases ew : isWord z with
        | false =>
          rw [ew] at k1
          exact iteF k1
        | true =>
          rw [ew] at k1
          refine iteT ⟨_, rfl, rfl, ?_⟩
          have e5 : (!decide (V.str z = V.str "in")) = (true && decide (z ≠ "in")) := by
            by_cases q : z = "in" <;> simp [q]
          rw [e5]
          exact k1
      | words l => rw [ef] at k; exact iteF (k H1 S1)
      | rows l => rw [ef] at k; exact iteF (k H1 S1)
      | sides l => rw [ef] at k; exact iteF (k H1 S1)
    refine iteF' (decide_eq_false fun z => c3 (by injection z)) ?_
    refine ⟨_, rfl, by show 2 ≤ sizeLine; decide, fun t nt => ?_⟩
    refine ⟨t, _, rfl, .inr (SqT.of upd_same), rfl, rfl, _, rfl, ?_⟩
    have S1 : Same H (upd H t (.tup [.str "labels", .str "words"])) := Same.new nt
    have e6 : (if false = true then !inV (.str fm) [.str "labels", .str "words"] else inV (.str fm) [.str "labels", .str "words"]) = decide (fm = "labels" ∨ fm = "words") := by
      rw [if_neg (by decide)]
      have := inV_words (f := fm) ["labels", "words"]
      refine this.trans ?_
      simp
    rw [e6]
    generalize upd H t (.tup [.str "labels", .str "words"]) = H1 at S1 ⊢
    have hp1 : PtAt K H1 (RowAt K H0 d) pt v := PtAt.mono S1 (fun _ _ q => q) hpH
    by_cases c4 : fm = "labels" ∨ fm = "words"
    · have ef : fit ka ks fm pt = onWords (areW 3) pt := by unfold fit; rw [if_neg c1, if_neg c2, if_neg c3, if_pos c4]
      refine iteT' (decide_eq_true c4) ?_
      refine ⟨_, rfl, v, 3, rfl, ?_⟩
      cases pt with
      | word z =>
        cases (show v = .str z from hp)
        rw [ef] at k
        exact .inr ⟨⟨_, .base (.str z), kit_ty (by decide +kernel)⟩, k H1 S1⟩
      | words l =>
        obtain ⟨b, rfl, hb⟩ := hp1
        rw [ef] at k
        exact .inl ⟨b, l, rfl, hb, fun z hz => Nat.le_of_lt (small1000 (nw z hz)), by simp [wordsP] at nf; omega, fun H2 S2 => k H2 (S1.trans S2)⟩
      | rows l =>
        obtain ⟨b, xs, rfl, hb, _⟩ := hp1
        rw [ef] at k
        exact .inr ⟨⟨_, tyL (SqL.of hb), kit_ty (by decide +kernel)⟩, k H1 S1⟩
      | sides ls => exact absurd rfl (n1 c4 ls)
    refine iteF' (decide_eq_false c4) ?_
    refine ⟨_, rfl, rfl, _, rfl, ?_⟩
    by_cases c5 : fm = "rows"
    · have ef : fit ka ks fm pt = isRows pt := by unfold fit; rw [if_neg c1, if_neg c2, if_neg c3, if_neg c4, if_pos c5]
      refine iteT' (decide_eq_true (by rw [c5])) ?_
      rw [ef] at k
      cases pt with
      | word z =>
        cases (show v = .str z from hp)
        exact ⟨_, rfl, .str z, .ty "list", _, _, false, rfl, .ty _, .base (.str z), kit_ty (by decide +kernel), k H1 S1⟩
      | words l =>
        obtain ⟨b, rfl, hb⟩ := hp1
        exact ⟨_, rfl, .ref b, .ty "list", _, _, false, rfl, .ty _, tyT hb, kit_ty (by decide +kernel), k H1 S1⟩
      | rows l =>
        obtain ⟨b, xs, rfl, hb, _⟩ := hp1
        exact ⟨_, rfl, .ref b, .ty "list", _, _, true, rfl, .ty _, tyL (SqL.of hb), kit_ty (by decide +kernel), k H1 S1⟩
      | sides ls =>
        obtain ⟨b, vs, rfl, hb, _⟩ := hp1
        exact ⟨_, rfl, .ref b, .ty "list", _, _, false, rfl, .ty _, tyT hb, kit_ty (by decide +kernel), k H1 S1⟩
    refine iteF' (decide_eq_false fun z => c5 (by injection z)) ?_
    refine ⟨_, rfl, rfl, _, rfl, ?_⟩
    by_cases c6 : fm = "sides"
    · have ef : fit ka ks fm pt = onSides pt := by unfold fit; rw [if_neg c1, if_neg c2, if_neg c3, if_neg c4, if_neg c5, if_pos c6]
      refine iteT' (decide_eq_true (by rw [c6])) ?_
      rw [ef] at k
      refine ⟨_, rfl, v, rfl, ?_⟩
      cases pt with
      | word z =>
        cases (show v = .str z from hp)
        exact .inr ⟨⟨_, .base (.str z), kit_ty (by decide +kernel)⟩, k H1 S1⟩
      | words l => exact absurd rfl (n2 c6 l)
      | rows l =>
        obtain ⟨b, xs, rfl, hb, _⟩ := hp1
        exact .inr ⟨⟨_, tyL (SqL.of hb), kit_ty (by decide +kernel)⟩, k H1 S1⟩
      | sides ls =>
        obtain ⟨b, vs, rfl, hb, hls⟩ := hp1
        have el := hls.len
        refine .inl ⟨b, vs, rfl, hb, by simp [kidsP] at nk; omega, fun x hx => ?_, fun H2 S2 => ?_⟩
        · obtain ⟨i, hi⟩ := List.getElem?_of_mem hx
          obtain ⟨l, _, c, cs, rfl, hc, _⟩ := hls.other hi
          exact ⟨c, cs, rfl, hc⟩
        · rw [← el]
          exact k H2 (S1.trans S2)
    refine iteF' (decide_eq_false fun z => c6 (by injection z)) ?_
    have ef : fit ka ks fm pt = wordR pt := by
      unfold fit
      rw [if_neg c1, if_neg c2, if_neg c3, if_neg c4, if_neg c5, if_neg c6]
      cases pt <;> simp [onWord, wordR]
    refine ⟨_, rfl, ?_⟩
    dsimp only [tNil, List.append_nil]
    refine is_w hp (S0.trans S1) nw (fun H2 S2 => ?_)
    rw [ef] at k
    exact k H2 (S1.trans S2)
end
end OR

set_option Elab.async false
set_option maxRecDepth 100000
set_option maxHeartbeats 4000000
set_option linter.all false
namespace OR
open PySem PySem.Spec PyProof.Rows L2 TS2
theorem fit_kind {R : Type} {ka ks : List (Key × V)} {f : Str} {p : Pt R} (h : fit ka ks f p = true) : kindOk f p = true := by
  unfold fit at h
  by_cases c1 : f = "ask"
  · subst c1; cases p <;> first | (simp [onWord] at h; done) | decide +kernel | simp [kindOk] <;> decide +kernel
  rw [if_neg c1] at h
  by_cases c2 : f = "signal"
  · subst c2; cases p <;> first | (simp [onWord] at h; done) | decide +kernel | simp [kindOk] <;> decide +kernel
  rw [if_neg c2] at h
  by_cases c3 : f = "slot"
  · subst c3; cases p <;> first | (simp [onWord] at h; done) | decide +kernel | simp [kindOk] <;> decide +kernel
  rw [if_neg c3] at h
  by_cases c4 : f = "labels" ∨ f = "words"
  · rw [if_pos c4] at h
    cases p with
    | words l => simp [kindOk]; exact c4
    | word z => simp [onWords] at h
    | rows l => simp [onWords] at h
    | sides l => simp [onWords] at h
  rw [if_neg c4] at h
  by_cases c5 : f = "rows"
  · rw [if_pos c5] at h
    cases p with
    | words l => simp [isRows] at h
    | word z => simp [isRows] at h
    | rows l => simp [kindOk, c5]
    | sides l => simp [isRows] at h
  rw [if_neg c5] at h
  by_cases c6 : f = "sides"
  · rw [if_pos c6] at h
    cases p with
    | words l => simp [onSides] at h
    | word z => simp [onSides] at h
    | rows l => simp [onSides] at h
    | sides l => simp [kindOk, c6]
  rw [if_neg c6] at h
  cases p with
  | words l => simp [onWord] at h
  | word z =>
    have c7 : f ≠ "labels" := fun z => c4 (.inl z)
    have c8 : f ≠ "words" := fun z => c4 (.inr z)
    simp [kindOk, c5, c6, c7, c8]
  | rows l => simp [onWord] at h
  | sides l => simp [onWord] at h
theorem zip_kinds {R : Type} {ka ks : List (Key × V)} : ∀ {fs : List Str} {ps : List (Pt R)}, ps.length = fs.length → ((fs.zip ps).map fun x => fit ka ks x.1 x.2).all id = true → KindsOk fs ps
  | [], [], _, _ => .nil
  | f :: fs, p :: ps, h, a => by
    simp at a h
    exact .cons (fit_kind a.1) (zip_kinds h (by simpa using a.2))
  | [], _ :: _, h, _ => by simp at h
  | _ :: _, [], h, _ => by simp at h
theorem hasForm_kinds {R : Type} {ed : Bool} {ka ks : List (Key × V)} {w : Str} {fs : List Str} {ps : List (Pt R)} (h : hasForm ed ka ks w fs ps = true) : KindsOk fs ps := by
  unfold hasForm at h
  simp only [Bool.and_eq_true, decide_eq_true_eq] at h
  exact zip_kinds h.2.1 h.2.2
theorem ftab_edit : ∀ e ∈ ftab, ("edit" : Str) ∈ e.2 → e.2.head? = some ("edit" : Str) := by decide +kernel
theorem ftab_gate : ∀ e ∈ ftab, ("gate" : Str) ∈ e.2 → e.2.head? = some ("gate" : Str) := by decide +kernel
theorem first_at {R : Type} {f : Str} {fs : List Str} {ps : List (Pt R)} (hk : KindsOk fs ps) (h : fs.head? = some f) (n : f ≠ "rows" ∧ f ≠ "sides" ∧ f ≠ "labels" ∧ f ≠ "words") : ∃ z qs, ps = .word z :: qs := by
  cases ps with
  | nil =>
    cases hk
    simp at h
  | cons p qs =>
    cases hk with
    | cons h1 t =>
      simp at h
      subst h
      cases p with
      | word z => exact ⟨z, _, rfl⟩
      | words l => simp [kindOk] at h1; rcases h1 with h1 | h1 <;> simp [h1] at n
      | rows l => simp [kindOk] at h1; simp [h1] at n
      | sides l => simp [kindOk] at h1; simp [h1] at n
theorem RC.keep {K : PySem.W.Frag} {H H' : Hp} {p : Addr} {ed : Bool} {ka ks : List (Key × V)} {st st' : Sn} {a s e g dx : Addr} (c : RC K H p ed ka ks st a s e g dx) (k : Kp (fun b => b = e ∨ b = g) H H') (h1 : H' e = some (.dK st'.1)) (h2 : H' g = some (.dK st'.2)) : RC K H' p ed ka ks st' a s e g dx := by
  have pe : p ≠ e := ne_of c.ob c.he (by intro z; cases z)
  have pg : p ≠ g := ne_of c.ob c.hg (by intro z; cases z)
  exact ⟨k _ _ c.ob (by rintro (z | z); exact pe z; exact pg z), k _ _ c.ha (by rintro (z | z); exact c.ea.1 z; exact c.ea.2.1 z), k _ _ c.hs (by rintro (z | z); exact c.ea.2.2.1 z; exact c.ea.2.2.2 z), h1, h2, c.eg, c.ea⟩
section
variable {P : Program} {w : World} {K : PySem.W.Frag} {mg : Str → Option Value} {base : Heap}
theorem ok_has_form {f : Addr} {fd : FuncData} (F : FnP K "has_form" "RowCheck.has_form" s_RowCheck_has_form f fd) (T : Tx w K mg) (M_fits : MDef P w K mg base CX0 3 (He.ga K "RowCheck") "fits" p_RowCheck_fits (spFits K)) : FnOk P w K mg base CX0 4 f fd p_RowCheck_has_form (spHasForm K) := by
  refine F.ok sc_RowCheck_has_form (fun vs H Q E h => ?_) (fun cdv A outer s H vs Q E hr h => ?_)
  · obtain ⟨p, v, _, _, _, _, _, _, _, _, _, _, _, _, _, rfl, _⟩ := h
    rfl
  · obtain ⟨p, v, d, H0, r, fs, ed, ka, ks, st, a, s', e, g, dx, rfl, rc, ⟨b, vs, rfl, hb, hp⟩, S0, hf, nice, few, k⟩ := h
    obtain ⟨t1, mEDIT⟩ := T.m_EDIT
    have hb1 := sameT S0 hb
    obtain ⟨q, e1, hq⟩ := T.forms _ hf
    refine ⟨_, PSs.nox (pss_cons (ps_if (PW.pt (pw_or (pt_not (pt_val (pe_callB call_isi (by rfl) T.b_isinstance (by decide +kernel) (pa_cons (pv 1) (pa_cons (pe_bltn (v := .ty "tuple") (u := .type "tuple") (by rfl) T.b_tuple (by decide +kernel) rfl) pa_nil))))) (pw_or1 (pt_cmpR op_eq (pe_callB call_len_seq (by rfl) T.b_len PySem.boot_len (pa_cons (pv 1) pa_nil)) pe_int (nomark _))))) (pss_one (ps_ret pe_bl)) pss_nil)
      (pss_cons (ps_if (PW.pt (pw_or (pt_not (pt_val (pe_callB call_isi (by rfl) T.b_isinstance (by decide +kernel) (pa_cons (pe_ix ix_tup (pv 1) pe_int (fun _ _ => rfl)) (pa_cons (pe_bltn (v := .ty "str") (u := .type "str") (by rfl) T.b_str (by decide +kernel) rfl) pa_nil))))) (pw_or (pt_cmpR (op_notIn_kd' T.D_FORMS) (pe_ix ix_tup (pv 1) pe_int (fun _ _ => rfl)) (pe_ref (by rfl) T.m_FORMS) (by rfl)) (pw_or1 (PW.pt (pw_and (pt_cmpR op_eq (pe_ix ix_tup (pv 1) pe_int (fun _ _ => rfl)) (pe_glob (by rfl) mEDIT (show RelV (.str "edit") _ from ⟨_, rfl⟩)) (nomark _)) (pw_and1 (pt_not (pt_val (pe_fld (pv 0) rfl)))))))))) (pss_one (ps_ret pe_bl)) pss_nil)
      (pss_cons (ps_set (i := 2) sc_RowCheck_has_form.nd rfl (.inl rfl) (pe_ix ix_kdict (pe_ref (by rfl) T.m_FORMS) (pe_ix ix_tup (pv 1) pe_int (fun _ _ => rfl)) (fun _ _ => rfl)))
      (pss_cons (ps_if (pt_cmpR op_ne (pe_callB call_len_seq (by rfl) T.b_len PySem.boot_len (pa_cons (pv 1) pa_nil)) (pe_op op_add pe_int (pe_callB call_len_seq (by rfl) T.b_len PySem.boot_len (pa_cons (pv 2) pa_nil))) (nomark _)) (pss_one (ps_ret pe_bl)) pss_nil)
      (pss_one (ps_ret (pe_callB (cr_all rfl) (by rfl) T.b_all (by decide +kernel) (pa_cons (pe_lc (own := [("form", 3), ("part", 4)]) (g := (gTup K 2 (gCons (gName 3) (gCons (gName 4) gNil)))) (by rfl) sc_RowCheck_has_form.nd (RZ.pi_zipA (by rfl) T.b_zip (pa_cons (pv 2) (pa_cons (pe_slice sl_tup (pv 1) (po_some pe_int) po_none) pa_nil))) (blkOk_by (N := n_RowCheck_has_form) (sc := defScope s_RowCheck_has_form) (by decide +kernel)) (fun _ _ _ _ _ => (pg_tup (by rfl) (pgs_cons (pg_name (i := 3) sc_RowCheck_has_form.nd rfl (.inl rfl)) (pgs_cons (pg_name (i := 4) sc_RowCheck_has_form.nd rfl (.inl rfl)) pgs_nil)))) (fun _ _ _ _ _ => pts_nil) (fun _ _ _ _ _ => (pe_mth M_fits (hr.mono (by decide)) pass0 (pv 0) (pa_cons (pv 3) (pa_cons (pv 4) pa_nil))))) pa_nil)))))))), ?_⟩
    refine ⟨_, rfl, .ref b, .ty "tuple", _, _, true, rfl, .ty _, tyT hb1, kit_ty (by decide +kernel), _, rfl, ?_⟩
    refine iteF ⟨_, rfl, b, _, rfl, .inr hb1, rfl, _, rfl, ?_⟩
    refine iteF' (decide_eq_false fun z => by injection z with z; simp only [List.length_cons] at z; omega) ?_
    refine ⟨_, rfl, b, _, _, .str r.1, rfl, rfl, hb1, at0, .str r.1, .ty "str", _, _, true, rfl, .ty _, .base (.str _), kit_ty (by decide +kernel), _, rfl, ?_⟩
    refine iteF ?_
    refine ⟨_, rfl, b, _, _, .str r.1, rfl, rfl, hb1, at0, _, _, rfl, rfl, e1, _, rfl, ?_⟩
    refine iteF ?_
    refine ⟨_, rfl, b, _, _, .str r.1, rfl, rfl, hb1, at0, rfl, _, rfl, ?_⟩
    have cc : (r.1 = "edit" ∧ ed = false) ∨ (r.1 = "edit" ∧ ed = true) ∨ r.1 ≠ "edit" := by
      by_cases c : r.1 = "edit"
      · cases ed
        · exact .inl ⟨c, rfl⟩
        · exact .inr (.inl ⟨c, rfl⟩)
      · exact .inr (.inr c)
    rcases cc with ⟨c, rfl⟩ | ⟨c, rfl⟩ | c
    · refine iteT' (decide_eq_true (by rw [c])) ?_
      refine ⟨_, rfl, p, _, dx, _, .bl false, rfl, rc.ob, T.c_RowCheck, T.n_RowCheck_with_edits, rfl, _, rfl, ?_⟩
      refine iteT ?_
      have e2 : hasForm false ka ks r.1 fs r.2 = false := by unfold hasForm; simp [c]
      rw [e2] at k
      exact k H (Same.refl H)
    refine iteT' (decide_eq_true (by rw [c])) ?_
    refine ⟨_, rfl, p, _, dx, _, .bl true, rfl, rc.ob, T.c_RowCheck, T.n_RowCheck_with_edits, rfl, _, rfl, ?_⟩
    refine iteF ?_
    have e2 : hasForm true ka ks r.1 fs r.2 = (decide (r.2.length = fs.length) && ((fs.zip r.2).map fun x => fit ka ks x.1 x.2).all id) := by unfold hasForm; simp
    rotate_left
    refine iteF' (decide_eq_false fun z => c (by injection z)) ?_
    have e2 : hasForm ed ka ks r.1 fs r.2 = (decide (r.2.length = fs.length) && ((fs.zip r.2).map fun x => fit ka ks x.1 x.2).all id) := by unfold hasForm; simp [c]
    rotate_left
    all_goals
      rw [e2] at k
      have lp := hp.len
      refine ⟨_, rfl, b, _, _, .str r.1, rfl, rfl, hb1, at0, _, _, .ref q, rfl, rfl, kdct T.D_FORMS e1 rfl, ?_⟩
      refine ⟨_, rfl, b, _, rfl, .inr hb1, _, rfl, q, _, rfl, .inr (hq _), _, _, rfl, rfl, rfl, _, rfl, ?_⟩
      by_cases cl : r.2.length = fs.length
      · have e3 : (!decide (V.int ((V.str r.1 :: vs).length : Int) = V.int (1 + ((fs.map V.str).length : Int)))) = false := by
          rw [decide_eq_true (by congr 1; simp only [List.length_cons, List.length_map]; omega)]
          rfl
        refine iteF' e3 ?_
        rw [decide_eq_true cl] at k
        refine ⟨_, rfl, _, rfl, 1, rfl, b, _, rfl, hb1, by rw [List.length_cons]; exact not_whole, fun t nt => ?_⟩
        rw [cut1]
        have S1 : Same H (upd H t (.tup vs)) := Same.new nt
        have ht : upd H t (.tup vs) t = some (.tup vs) := upd_same
        generalize upd H t (.tup vs) = H1 at S1 ht ⊢
        refine ⟨q, t, fs.map V.str, vs, rfl, .inr ⟨hq _, SqT.of ht, fun D nD => ?_⟩⟩
        refine lc_it (walk_zipT (K := K) (a := q) (b := t) (xs := fs.map V.str) (ys := vs) (n := vs.length) (by rw [List.length_map, ← lp, cl]; simp)) (fun i H2 => Same H1 H2 ∧ H2 D = some (.lst ((((fs.zip r.2).map fun x => fit ka ks x.1 x.2).take i).map V.bl))) ⟨Same.new nD, upd_same⟩
          (fun i H2 _ q2 => ⟨hq _, sameT q2.1 (SqT.of ht)⟩) (fun i x H2 H3 hi p2 y => ?_) (fun H2 p2 => ?_)
        · obtain ⟨T1, fm, v, rfl, nT, rfl, hx, hy⟩ := y
          obtain ⟨S2, hD⟩ := p2
          have hx : (fs.map V.str)[i]? = some fm := hx
          have hy : vs[i]? = some v := hy
          rw [List.getElem?_map] at hx
          cases ef : fs[i]? with
          | none => rw [ef] at hx; cases hx
          | some f0 =>
            rw [ef] at hx
            cases Option.some.inj hx
            obtain ⟨pt, hpt, hpat⟩ := hp.other hy
            have hz : (fs.zip r.2)[i]? = some (f0, pt) := by rw [List.getElem?_zip_eq_some]; exact ⟨ef, hpt⟩
            refine ⟨T1, _, rfl, SqT.of upd_same, rfl, _, _, rfl, _, _, rfl, rfl, rfl, ?_⟩
            refine tYes_ ?_
            refine iteT ?_
            have S3 : Same H2 (upd H2 T1 (.tup [.str f0, v])) := Same.new nT
            refine ⟨_, rfl, p, dx, _, rfl, S3 _ _ (S2 _ _ (S1 _ _ rc.ob)), rfl, _, rfl, _, rfl, ?_⟩
            refine ⟨p, f0, v, d, H0, pt, _, ka, ks, st, a, s', e, g, dx, rfl, ((rc.same S1).same S2).same S3, hpat, S0.trans (S1.trans (S2.trans S3)), nice _ (List.mem_of_getElem? hz), fun H4 S4 => ?_⟩
            have hD4 : H4 D = _ := S4 _ _ (by rw [upd_ne (ne_of_none hD nT)]; exact hD)
            refine ⟨_, hD4, ?_, fun b o hb => ?_, ?_⟩
            · rw [List.length_map, List.length_take, List.length_map, List.length_zip]
              exact small1000 (by omega)
            · have nb : b ≠ D := fun z => by rw [z, nD] at hb; cases hb
              rw [upd_ne nb]
              exact S4 _ _ (by rw [upd_ne (ne_of_none (S2 _ _ hb) nT)]; exact S2 _ _ hb)
            · rw [upd_same, take_more (x := fit ka ks f0 pt) (by rw [List.getElem?_map, hz]; rfl), List.map_append]
              rfl
        · obtain ⟨S2, hD⟩ := p2
          refine ⟨D, (fs.zip r.2).map fun x => fit ka ks x.1 x.2, rfl, SqL.of ?_, ?_⟩
          · rw [hD, List.take_of_length_le (by rw [List.length_map, List.length_zip]; omega)]
          · exact k _ (S1.trans S2)
      · have e3 : (!decide (V.int ((V.str r.1 :: vs).length : Int) = V.int (1 + ((fs.map V.str).length : Int)))) = true := by
          rw [decide_eq_false (fun z => by injection z with z; simp only [List.length_cons, List.length_map] at z; omega)]
          rfl
        refine iteT' e3 ?_
        rw [decide_eq_false cl] at k
        exact k H (Same.refl H)
theorem ok_is_new {f : Addr} {fd : FuncData} (F : FnP K "is_new" "RowCheck.is_new" s_RowCheck_is_new f fd) (T : Tx w K mg) : FnOk P w K mg base CX0 1 f fd p_RowCheck_is_new (spIsNew K) := by
  refine F.ok sc_RowCheck_is_new (fun vs H Q E h => ?_) (fun cdv A outer s H vs Q E hr h => ?_)
  · obtain ⟨p, v, _, _, _, _, _, _, _, _, _, _, _, _, _, rfl, _⟩ := h
    rfl
  · obtain ⟨p, v, d, H0, r, fs, ed, ka, ks, st, a, s', e, g, dx, rfl, rc, ⟨b, vs, rfl, hb, hp⟩, S0, ne, ng, hf, hk, l1, l2, k⟩ := h
    have hu := hu_of hr
    have hb1 := sameT S0 hb
    obtain ⟨q, e1, hq⟩ := T.forms _ hf
    refine ⟨_, PSs.nox (pss_cons (ps_set (i := 2) sc_RowCheck_is_new.nd rfl (.inl rfl) (pe_ix ix_kdict (pe_ref (by rfl) T.m_FORMS) (pe_ix ix_tup (pv 1) pe_int (fun _ _ => rfl)) (fun _ _ => rfl)))
      (pss_cons (ps_if (pt_cmpR op_in_seq pe_str (pv 2) (by rfl)) (pss_cons (ps_set (i := 3) sc_RowCheck_is_new.nd rfl (.inl rfl) (pe_and (pe_cmp (pc_dnotin hu (pe_ix ix_tup (pv 1) pe_int (fun _ _ => rfl)) (pe_fld (pv 0) rfl))) (pe_one (pe_cmp (pc_dnotin hu (pe_ix ix_tup (pv 1) pe_int (fun _ _ => rfl)) (pe_fld (pv 0) rfl))))))
      (pss_cons (ps_dput hu (pe_fld (pv 0) rfl) (pe_ix ix_tup (pv 1) pe_int (fun _ _ => rfl)) pe_bl rfl)
      (pss_one (ps_ret (pv 3))))) pss_nil)
      (pss_cons (ps_if (pt_cmpR op_in_seq pe_str (pv 2) (by rfl)) (pss_cons (ps_dput hu (pe_fld (pv 0) rfl) (pe_ix ix_tup (pv 1) pe_int (fun _ _ => rfl)) pe_bl rfl)
      (pss_one (ps_ret (pe_cmp (pc_dnotin hu (pe_ix ix_tup (pv 1) pe_int (fun _ _ => rfl)) (pe_fld (pv 0) rfl)))))) pss_nil)
      (pss_one (ps_ret pe_bl))))), ?_⟩
    refine ⟨_, rfl, b, _, _, .str r.1, rfl, rfl, hb1, at0, _, _, .ref q, rfl, rfl, kdct T.D_FORMS e1 rfl, ?_⟩
    refine ⟨_, rfl, q, _, rfl, .inr (hq _), rfl, flat_words _, _, rfl, ?_⟩
    have e3 : ∀ x : Str, (if false = true then !inV (.str x) (fs.map V.str) else inV (.str x) (fs.map V.str)) = decide (x ∈ fs) := fun x => inV_words _
    rw [e3]
    by_cases c1 : ("edit" : Str) ∈ fs
    · obtain ⟨z, qs, er⟩ := first_at hk (ftab_edit _ hf c1) (by decide +kernel)
      rw [er] at hp
      cases hp with
      | cons hz hp' =>
        rename_i y ys
        cases (show y = .str z from hz)
        have ei : isNew fs r.2 st = (!hasK st.1 z && !hasK st.2 z, (putK st.1 (Sum.inr z) (.bl true), st.2)) := by unfold isNew; rw [if_pos c1, er]; rfl
        rw [ei] at k
        refine iteT' (decide_eq_true c1) ?_
        have k2 := k _ (Kp.put (C := fun b => b = e ∨ b = g) (.inl rfl)) (rc.keep (st' := (putK st.1 (Sum.inr z) (.bl true), st.2)) (Kp.put (C := fun b => b = e ∨ b = g) (.inl rfl)) upd_same (by rw [upd_ne rc.eg.symm]; exact rc.hg))
        refine ⟨_, rfl, b, _, _, .str z, rfl, rfl, hb1, at1, _, rfl, p, _, dx, _, .ref e, rfl, rc.ob, T.c_RowCheck, T.n_RowCheck_seen_edits, rfl, e, _, rfl, DGet.k (k := .inr z) rc.he, _, rfl, ?_⟩
        cases c2 : hasK st.1 z with
        | true =>
          rw [c2] at k2
          refine iteF' (by show (!hasK st.1 z) = false; rw [c2]; rfl) ?_
          refine ⟨_, rfl, p, _, dx, _, .ref e, rfl, rc.ob, T.c_RowCheck, T.n_RowCheck_seen_edits, rfl, _, rfl, b, _, _, .str z, rfl, rfl, hb1, at1, e, _, rfl, DPut.k (k := .inr z) rc.he (Nat.lt_of_le_of_lt l1 (by decide)), ?_⟩
          exact ⟨_, rfl, k2⟩
        | false =>
          rw [c2] at k2
          refine iteT' (by show (!hasK st.1 z) = true; rw [c2]; rfl) ?_
          refine ⟨_, rfl, b, _, _, .str z, rfl, rfl, hb1, at1, _, rfl, p, _, dx, _, .ref g, rfl, rc.ob, T.c_RowCheck, T.n_RowCheck_seen_gates, rfl, g, _, rfl, DGet.k (k := .inr z) rc.hg, ?_⟩
          refine ⟨_, rfl, p, _, dx, _, .ref e, rfl, rc.ob, T.c_RowCheck, T.n_RowCheck_seen_edits, rfl, _, rfl, b, _, _, .str z, rfl, rfl, hb1, at1, e, _, rfl, DPut.k (k := .inr z) rc.he (Nat.lt_of_le_of_lt l1 (by decide)), ?_⟩
          exact ⟨_, rfl, k2⟩
    · refine iteF' (decide_eq_false c1) ?_
      refine ⟨_, rfl, q, _, rfl, .inr (hq _), rfl, flat_words _, _, rfl, ?_⟩
      rw [e3]
      by_cases c2 : ("gate" : Str) ∈ fs
      · obtain ⟨z, qs, er⟩ := first_at hk (ftab_gate _ hf c2) (by decide +kernel)
        rw [er] at hp
        cases hp with
        | cons hz hp' =>
          rename_i y ys
          cases (show y = .str z from hz)
          have ei : isNew fs r.2 st = (!hasK st.1 z, (st.1, putK st.2 (Sum.inr z) (.bl true))) := by unfold isNew; rw [if_neg c1, if_pos c2, er]; rfl
          rw [ei] at k
          refine iteT' (decide_eq_true c2) ?_
          have K1 : Kp (fun b => b = e ∨ b = g) H (upd H g (.dK (putK st.2 (Sum.inr z) (.bl true)))) := Kp.put (C := fun b => b = e ∨ b = g) (.inr rfl)
          have rc2 := rc.keep (st' := (st.1, putK st.2 (Sum.inr z) (.bl true))) K1 (by rw [upd_ne rc.eg]; exact rc.he) upd_same
          have k2 := k _ K1 rc2
          refine ⟨_, rfl, p, _, dx, _, .ref g, rfl, rc.ob, T.c_RowCheck, T.n_RowCheck_seen_gates, rfl, _, rfl, b, _, _, .str z, rfl, rfl, hb1, at1, g, _, rfl, DPut.k (k := .inr z) rc.hg (Nat.lt_of_le_of_lt l2 (by decide)), ?_⟩
          have hb2 : SqT K (upd H g (.dK (putK st.2 (Sum.inr z) (.bl true)))) b (.str r.1 :: .str z :: ys) := sameT (Kp.base S0 K1 (by rintro c (rfl | rfl); exact ne; exact ng)) hb
          refine ⟨_, rfl, b, _, _, .str z, rfl, rfl, hb2, at1, _, rfl, p, _, dx, _, .ref e, rfl, rc2.ob, T.c_RowCheck, T.n_RowCheck_seen_edits, rfl, e, _, rfl, DGet.k (k := .inr z) rc2.he, k2⟩
      · refine iteF' (decide_eq_false c2) ?_
        have ei : isNew fs r.2 st = (true, st) := by unfold isNew; rw [if_neg c1, if_neg c2]
        rw [ei] at k
        exact k H (Kp.refl H) rc
end
end OR

set_option Elab.async false
set_option maxRecDepth 100000
set_option maxHeartbeats 4000000
set_option linter.all false
namespace OR
open PySem PySem.Spec PyProof.Rows L2 TS2
def fsOf (w : Str) : List Str := (ftab.lookup w).getD []
theorem fsOf_at : ∀ e ∈ ftab, fsOf e.1 = e.2 := by decide +kernel
/-- one after another, each at its place behind the path; the first that stops it, and where -/
def seqChk {α : Type} (f : α → List Int → Sn → Option (List Int) × Sn) (pre : List Int) : List α → Nat → Sn → Option (List Int) × Sn
  | [], _, st => (none, st)
  | x :: xs, i, st => match f x (pre ++ [(i : Int)]) st with
    | (some p, st') => (some p, st')
    | (none, st') => seqChk f pre xs (i + 1) st'
def innerLoop (w : Str) (il : Bool) : Bool := decide (w = "loop") || (il && decide (w ≠ "both"))
/-- the check of one row: kid the check of a list within -/
def oneChk {R : Type} (ed : Bool) (ka ks : List (Key × V)) (kid : Bool → List R → List Int → Sn → Option (List Int) × Sn) (il : Bool) (r : Str × List (Pt R)) (path : List Int) (st : Sn) : Option (List Int) × Sn :=
  if hasForm ed ka ks r.1 (fsOf r.1) r.2 && mayS r.1 path.length il (kids r.2).length then
    (if (isNew (fsOf r.1) r.2 st).1 then seqChk (kid (innerLoop r.1 il)) path (kids r.2) 0 (isNew (fsOf r.1) r.2 st).2 else (some path, (isNew (fsOf r.1) r.2 st).2))
  else (some path, st)
def chk (ed : Bool) (ka ks : List (Key × V)) : (d : Nat) → Bool → List (Row d) → List Int → Sn → Option (List Int) × Sn
  | 0, _, _, _, st => (none, st)
  | d + 1, il, rows, pre, st => seqChk (oneChk ed ka ks (chk ed ka ks d) il) pre rows 0 st
def len2 (st : Sn) : Nat := st.1.length + st.2.length
theorem seqChk_len {α : Type} {f : α → List Int → Sn → Option (List Int) × Sn} {m : α → Nat} {pre : List Int} : ∀ {l : List α} {i : Nat} {st : Sn}, (∀ x ∈ l, ∀ p st, len2 (f x p st).2 ≤ len2 st + m x) → len2 (seqChk f pre l i st).2 ≤ len2 st + (l.map m).sum
  | [], i, st, _ => by simp [seqChk]
  | x :: xs, i, st, h => by
    have h1 := h x List.mem_cons_self (pre ++ [(i : Int)]) st
    unfold seqChk
    cases e : f x (pre ++ [(i : Int)]) st with
    | mk o st' =>
      rw [e] at h1
      cases o with
      | some p => simp at h1 ⊢; omega
      | none =>
        have h2 := seqChk_len (l := xs) (i := i + 1) (st := st') (pre := pre) fun y hy => h y (List.mem_cons_of_mem _ hy)
        simp at h1 h2 ⊢
        omega
theorem isNew_len {R : Type} (fs : List Str) (ps : List (Pt R)) (st : Sn) : len2 (isNew fs ps st).2 ≤ len2 st + 1 := by
  unfold isNew len2
  split
  · have := length_putK st.1 (Sum.inr (firstW ps)) (.bl true)
    simp; omega
  · split
    · have := length_putK st.2 (Sum.inr (firstW ps)) (.bl true)
      simp; omega
    · simp
theorem chk_len (ed : Bool) (ka ks : List (Key × V)) : ∀ (d : Nat) (il : Bool) (rows : List (Row d)) (pre : List Int) (st : Sn), len2 (chk ed ka ks d il rows pre st).2 ≤ len2 st + lsz d rows
  | 0, il, rows, pre, st => by simp [chk]
  | d + 1, il, rows, pre, st => by
    refine seqChk_len (m := rsz (d + 1)) fun r _ p st => ?_
    have e : rsz (d + 1) r = 1 + ((kids r.2).map (lsz d)).sum := rfl
    rw [e]
    unfold oneChk
    have h1 := isNew_len (fsOf r.1) r.2 st
    split
    · split
      · have h2 := seqChk_len (f := chk ed ka ks d (innerLoop r.1 il)) (m := lsz d) (pre := p) (l := kids r.2) (i := 0) (st := (isNew (fsOf r.1) r.2 st).2) fun l _ p st => chk_len ed ka ks d _ l p st
        omega
      · show len2 (isNew (fsOf r.1) r.2 st).2 ≤ _
        omega
    · show len2 st ≤ _
      omega
/-- what is asked of rows that are checked -/
def Pre : (d : Nat) → Row d → Prop
  | 0, r => nomatch r
  | d + 1, r => (r.1, fsOf r.1) ∈ ftab ∧ (∀ x ∈ (fsOf r.1).zip r.2, Nice x.1 x.2) ∧ r.2.length ≤ 1000 ∧ (kids r.2).length ≤ 1000 ∧ ∀ l ∈ kids r.2, l.length ≤ 1000 ∧ ∀ r' ∈ l, Pre d r'
abbrev cIP (K : PySem.W.Frag) : Addr := He.ga K "InvalidProgram"
/-- the refusal of a row -/
def Refuses (K : PySem.W.Frag) (C : Addr → Prop) (H : Hp) (part : Str) (path : List Int) (E : XK) : Prop := ∀ (dd t : Addr) (H' : Hp), Kp C H H' → H dd = none → H' dd = some (.xd [("path", .ref t), ("part", .str part)]) → SqT K H' t (path.map V.int) → E (.ref (cIP K)) (some dd) H'
def spCheck (K : PySem.W.Frag) : Nat → Sp
  | 0 => fun _ _ _ _ => False
  | d + 1 => fun vs H Q E => ∃ (p r t : Addr) (il : Bool) (H0 : Hp) (rows : List (Row d)) (xs : List V) (pre : List Int) (ed : Bool) (ka ks : List (Key × V)) (st : Sn) (a s e g dx : Addr), vs = [.ref p, .ref r, .ref t, .bl il] ∧ RC K H p ed ka ks st a s e g dx ∧
    H0 r = some (.lst xs) ∧ Same H0 H ∧ H0 e = none ∧ H0 g = none ∧ All2 (RowAt K H0 d) rows xs ∧ (∀ r ∈ rows, Pre d r) ∧ SqT K H t (pre.map V.int) ∧ pre.length + 2 * d ≤ 90 ∧ len2 st + lsz d rows ≤ 3000 ∧ t ≠ e ∧ t ≠ g ∧
    ((chk ed ka ks d il rows pre st).1 = none → ∀ H', Kp (fun b => b = e ∨ b = g) H H' → RC K H' p ed ka ks (chk ed ka ks d il rows pre st).2 a s e g dx → Q .non H') ∧
    (∀ path, (chk ed ka ks d il rows pre st).1 = some path → Refuses K (fun b => b = e ∨ b = g) H "rows" path E)
theorem cat_path {K : PySem.W.Frag} {H : Hp} {t0 t1 : Addr} {xs : List V} {y : V} {Q : VK} (h0 : SqT K H t0 xs) (h1 : H t1 = some (.tup [y])) (few : xs.length ≤ 1000) (k : ∀ H' tp, Same H H' → SqT K H' tp (xs ++ [y]) → (H' tp = some (.tup (xs ++ [y])) ∧ (tp = t1 ∨ H tp = none)) → Q (.ref tp) H') : rCatA K (.ref t0) (.ref t1) H Q := by
  refine ⟨t0, t1, xs, [y], rfl, rfl, h0, SqT.of h1, Nat.le_of_lt (Nat.lt_of_le_of_lt (Nat.add_le_add_right few 1) (by decide)), fun z => ?_, fun _ z => by simp at z, fun _ _ p np => ?_⟩
  · subst z
    exact k H t1 (Same.refl H) (SqT.of h1) ⟨h1, .inl rfl⟩
  · exact k _ p (Same.new np) (SqT.of upd_same) ⟨upd_same, .inr np⟩
theorem seq_drop {α : Type} {f : α → List Int → Sn → Option (List Int) × Sn} {pre : List Int} {l : List α} {i : Nat} {x : α} {st : Sn} (h : l[i]? = some x) : seqChk f pre (l.drop i) i st = (match f x (pre ++ [(i : Int)]) st with
    | (some p, st') => (some p, st')
    | (none, st') => seqChk f pre (l.drop (i + 1)) (i + 1) st') := by
  obtain ⟨lt, e⟩ := List.getElem?_eq_some_iff.mp h
  rw [List.drop_eq_getElem_cons lt, e]
  rfl
theorem sum_drop {α : Type} (m : α → Nat) {l : List α} {i : Nat} {x : α} (h : l[i]? = some x) : ((l.drop i).map m).sum = m x + ((l.drop (i + 1)).map m).sum := by
  obtain ⟨lt, e⟩ := List.getElem?_eq_some_iff.mp h
  rw [List.drop_eq_getElem_cons lt, e]
  simp
theorem RC.free {K : PySem.W.Frag} {H H8 : Hp} {p : Addr} {ed : Bool} {ka ks : List (Key × V)} {st8 : Sn} {a s e g dx d0 : Addr} (k : Kp (fun b => b = e ∨ b = g) H H8) (rc : RC K H8 p ed ka ks st8 a s e g dx) (nd : H8 d0 = none) : H d0 = none := by
  cases q : H d0 with
  | none => rfl
  | some o =>
    have z := k d0 o q (by
      rintro (z | z)
      · rw [z, rc.he] at nd; cases nd
      · rw [z, rc.hg] at nd; cases nd)
    rw [nd] at z
    cases z
theorem refused {K : PySem.W.Frag} {H H8 : Hp} {p : Addr} {ed : Bool} {ka ks : List (Key × V)} {st8 : Sn} {a s e g dx tp : Addr} {path : List Int} {E : XK} {part : Str} (k : Kp (fun b => b = e ∨ b = g) H H8) (rc : RC K H8 p ed ka ks st8 a s e g dx) (ht : SqT K H8 tp (path.map V.int))
    (r : Refuses K (fun b => b = e ∨ b = g) H part path E) (d0 : Addr) (H' : Hp) (nd : H8 d0 = none) (hd : H' d0 = some (.xd [("path", .ref tp), ("part", .str part)])) (oth : ∀ b, b ≠ d0 → H' b = H8 b) : E (.ref (cIP K)) (some d0) H' := by
  have S : Same H8 H' := fun b o h => by rw [oth b (ne_of_none h nd)]; exact h
  exact r d0 tp H' (k.trans (Kp.of S)) (RC.free k rc nd) hd (sameT S ht)
section
variable {P : Program} {w : World} {K : PySem.W.Frag} {mg : Str → Option Value} {base : Heap}
theorem ok_check_list {k0 d : Nat} {f : Addr} {fd : FuncData} (F : FnP K "check_list" "RowCheck.check_list" s_RowCheck_check_list f fd) (T : Tx w K mg) (h5 : 5 ≤ k0) (E_InvalidProgram : ErrDef P w K mg base CX0 1 "InvalidProgram" (cIP K) ["self", "part", "path"] ["part", "path"])
    (G_lists_of : Def P w K mg base CX0 1 "lists_of" p_lists_of (spListsOf K)) (G_may_stand : Def P w K mg base CX0 2 "may_stand" p_may_stand (spMay K)) (M_has_form : MDef P w K mg base CX0 4 (He.ga K "RowCheck") "has_form" p_RowCheck_has_form (spHasForm K))
    (M_is_new : MDef P w K mg base CX0 1 (He.ga K "RowCheck") "is_new" p_RowCheck_is_new (spIsNew K)) (M_check_list : MDef P w K mg base (L2.CX P w) k0 (He.ga K "RowCheck") "check_list" p_RowCheck_check_list (spCheck K d)) :
    FnOk P w K mg base (L2.CX P w) (k0 + 1) f fd p_RowCheck_check_list (spCheck K (d + 1)) := by
  refine F.ok sc_RowCheck_check_list (fun vs H Q E h => ?_) (fun cdv A outer s H vs Q E hr h => ?_)
  · obtain ⟨p, r, t, il, _, _, _, _, _, _, _, _, _, _, _, _, _, rfl, _⟩ := h
    rfl
  · obtain ⟨p, r, t, il, H0, rows, xs, pre, ed, ka, ks, st, a, s', e, g, dx, rfl, rc, hr0, S0, ne, ng, hp, prr, ht, fewp, fews, te, tg, kq, ke⟩ := h
    refine ⟨_, (pss_one (ps_for (passes_of rfl) rfl (pi_enum (by rfl) T.b_enumerate (pa_cons (pv 1) pa_nil)) (pg_tup (by rfl) (pgs_cons (pg_name (i := 4) sc_RowCheck_check_list.nd rfl (.inl rfl)) (pgs_cons (pg_name (i := 5) sc_RowCheck_check_list.nd rfl (.inl rfl)) pgs_nil))) (pss_cons (ps_set (i := 6) sc_RowCheck_check_list.nd rfl (.inl rfl) (pe_op op_catA (pv 2) (pe_tup (pa_cons (pv 4) pa_nil))))
      (pss_cons (ps_if (PW.pt (pw_or (pt_not (pt_val (pe_mth M_has_form (hr.mono (by omega)) pass0 (pv 0) (pa_cons (pv 5) pa_nil)))) (pw_or (pt_not (pt_val (pe_fn G_may_stand (hr.mono (by omega)) (by rfl) pass0 (pa_cons (pv 5) (pa_cons (pv 6) (pa_cons (pv 3) pa_nil)))))) (pw_or1 (pt_not (pt_val (pe_mth M_is_new (hr.mono (by omega)) pass0 (pv 0) (pa_cons (pv 5) pa_nil)))))))) (pss_one (ps_raise rfl (takes_of rfl rfl rfl rfl) (pmk_errL E_InvalidProgram (hr.mono (by omega)) (by rfl) pass0 (pa_cons pe_str (pa_cons (pv 6) pa_nil))))) pss_nil)
      (pss_cons (ps_set (i := 7) sc_RowCheck_check_list.nd rfl (.inl rfl) (pe_or (pe_cmpR op_eq (pe_ix ix_tup (pv 5) pe_int (fun _ _ => rfl)) pe_str (nomark _)) (pe_one (pe_and (pv 3) (pe_one (pe_cmpR op_ne (pe_ix ix_tup (pv 5) pe_int (fun _ _ => rfl)) pe_str (nomark _)))))))
      (pss_one (ps_for (passes_of rfl) rfl (pi_enum (by rfl) T.b_enumerate (pa_cons (pe_fn G_lists_of (hr.mono (by omega)) (by rfl) pass0 (pa_cons (pv 5) pa_nil)) pa_nil)) (pg_tup (by rfl) (pgs_cons (pg_name (i := 8) sc_RowCheck_check_list.nd rfl (.inl rfl)) (pgs_cons (pg_name (i := 9) sc_RowCheck_check_list.nd rfl (.inl rfl)) pgs_nil))) (pss_one (ps_expr (pe_mth M_check_list (hr.mono (by omega)) (passes_call (W := fun c d _ H => E c d H) (takes_of rfl rfl rfl rfl) (fun _ _ _ _ h => h)) (pv 0) (pa_cons (pv 9) (pa_cons (pe_op op_catA (pv 6) (pe_tup (pa_cons (pv 8) pa_nil))) (pa_cons (pv 7) pa_nil))))))))))))), ?_⟩
    cases d with
    | zero =>
      cases rows with
      | cons x _ => exact nomatch x
      | nil =>
        cases hp
        refine ⟨_, rfl, r, _, rfl, SqL.of (S0 _ _ hr0), ?_⟩
        refine for_it (walk_enum (K := K) (a := r) (xs := [])) (fun i σ' H' => H' = H) rfl (fun i σ' H' _ q => q ▸ SqL.of (S0 _ _ hr0)) (fun i x σ' H3 H4 hi q y => absurd hi (Nat.not_lt_zero _)) (fun σ' H' q => ?_)
        subst q
        exact kq rfl _ (Kp.refl _) rc
    | succ d =>
      have eT : chk ed ka ks (d + 1) il rows pre st = seqChk (oneChk ed ka ks (chk ed ka ks d) il) pre rows 0 st := rfl
      rw [eT] at kq ke
      have lT : lsz (d + 1) rows = (rows.map (rsz (d + 1))).sum := rfl
      have HC : ∀ {H' : Hp}, Kp (fun b => b = e ∨ b = g) H H' → Same H0 H' := fun k => Kp.base S0 k (by rintro c (rfl | rfl); exact ne; exact ng)
      refine ⟨_, rfl, r, _, rfl, SqL.of (S0 _ _ hr0), ?_⟩
      refine for_it (walk_enum (K := K) (a := r) (xs := xs)) (fun i σ' H' => ∃ (st1 : Sn) (y1 y2 y3 y4 y5 y6 : Option V), σ' = [some (.ref p), some (.ref r), some (.ref t), some (.bl il), y1, y2, y3, y4, y5, y6] ∧ Kp (fun b => b = e ∨ b = g) H H' ∧ RC K H' p ed ka ks st1 a s' e g dx ∧
          seqChk (oneChk ed ka ks (chk ed ka ks d) il) pre (rows.drop i) i st1 = seqChk (oneChk ed ka ks (chk ed ka ks d) il) pre rows 0 st ∧ len2 st1 + ((rows.drop i).map (rsz (d + 1))).sum ≤ 3000)
        ⟨st, _, _, _, _, _, _, rfl, Kp.refl _, rc, rfl, fews⟩ (fun i σ' H' _ q => ?_) (fun i x σ' H3 H4 hi q y => ?_) (fun σ' H' q => ?_)
      · obtain ⟨_, _, _, _, _, _, _, _, kp, _⟩ := q
        exact SqL.of (HC kp _ _ hr0)
      · obtain ⟨st1, y1, y2, y3, y4, y5, y6, rfl, kp, rc1, eq, fw⟩ := q
        obtain ⟨T1, num, rv, rfl, nT, rfl, hnum, hrv⟩ := y
        cases Option.some.inj hnum
        have hrv : xs[i]? = some rv := hrv
        obtain ⟨row, hrow, hra⟩ := hp.other hrv
        have pr := prr row (List.mem_of_getElem? hrow)
        obtain ⟨hf, nice, l1000, k1000, prk⟩ := id pr
        have eq := (seq_drop (f := oneChk ed ka ks (chk ed ka ks d) il) (pre := pre) (st := st1) hrow).symm.trans eq
        rw [sum_drop _ hrow] at fw
        have er : rsz (d + 1) row = 1 + ((kids row.2).map (lsz d)).sum := rfl
        have S4 : Same H3 (upd H3 T1 (.tup [.int (i : Nat), rv])) := Same.new nT
        refine ⟨T1, _, rfl, SqT.of upd_same, rfl, _, _, rfl, _, _, rfl, rfl, ?_⟩
        have kp4 : Kp (fun b => b = e ∨ b = g) H (upd H3 T1 (.tup [.int (i : Nat), rv])) := kp.trans (Kp.of S4)
        have rc4 := rc1.same S4
        generalize upd H3 T1 (.tup [.int (i : Nat), rv]) = H5 at kp4 rc4 ⊢
        have tH : ∀ {H' : Hp}, Kp (fun b => b = e ∨ b = g) H H' → SqT K H' t (pre.map V.int) := fun k => by
          rcases ht with (q | ⟨o, q⟩) | q
          · exact .inl (.inl (k _ _ q (by rintro (z | z); exact te z; exact tg z)))
          · exact .inl (.inr ⟨o, k _ _ q (by rintro (z | z); exact te z; exact tg z)⟩)
          · exact .inr q
        -- the path
        refine ⟨_, rfl, _, rfl, by show 1 ≤ sizeLine; decide, fun t1 n1 => ?_⟩
        have S5 : Same H5 (upd H5 t1 (.tup [.int (i : Nat)])) := Same.new n1
        have h1 : upd H5 t1 (.tup [.int (i : Nat)]) t1 = some (.tup [.int (i : Nat)]) := upd_same
        generalize upd H5 t1 (.tup [.int (i : Nat)]) = H6 at S5 h1 ⊢
        refine cat_path (tH (kp4.trans (Kp.of S5))) h1 (by rw [List.length_map]; omega) (fun H7 tp S7 htp hnew => ?_)
        have ep : pre.map V.int ++ [V.int (i : Nat)] = (pre ++ [(i : Int)]).map V.int := by simp
        rw [ep] at htp hnew
        have kp7 := (kp4.trans (Kp.of S5)).trans (Kp.of (C := fun b => b = e ∨ b = g) S7)
        have rc7 := (rc4.same S5).same S7
        have S07 := HC kp7
        have tpe : tp ≠ e := ne_of hnew.1 rc7.he (by intro z; cases z)
        have tpg : tp ≠ g := ne_of hnew.1 rc7.hg (by intro z; cases z)
        generalize epth : pre ++ [(i : Int)] = path at htp hnew eq
        have lpath : path.length + 2 * (d + 1) ≤ 91 := by rw [← epth, List.length_append]; simp; omega
        generalize eOut : seqChk (oneChk ed ka ks (chk ed ka ks d) il) pre rows 0 st = OUT at kq ke eq
        -- the form
        refine ⟨_, rfl, p, dx, _, rfl, rc7.ob, rfl, _, rfl, ?_⟩
        refine ⟨p, rv, d, H0, row, fsOf row.1, ed, ka, ks, st1, a, s', e, g, dx, rfl, rc7, hra, S07, hf, nice, l1000, fun H8 S8 => ?_⟩
        have kp8 := kp7.trans (Kp.of (C := fun b => b = e ∨ b = g) S8)
        have rc8 := rc7.same S8
        refine ⟨_, rfl, ?_⟩
        cases c1 : hasForm ed ka ks row.1 (fsOf row.1) row.2 with
        | false =>
          refine iteT ?_
          have e1 : oneChk ed ka ks (chk ed ka ks d) il row path st1 = (some path, st1) := by unfold oneChk; rw [c1]; rfl
          rw [e1] at eq
          exact ⟨_, rfl, rfl, refused kp8 rc8 (sameT S8 htp) (ke path (by rw [← eq]))⟩
        | true =>
        have hk := hasForm_kinds c1
        refine iteF ?_
        refine ⟨_, rfl, _, rfl, _, rfl, ?_⟩
        refine ⟨rv, tp, il, H0, d, row, fsOf row.1, path.map V.int, rfl, sameT S8 htp, by rw [List.length_map]; omega, hra, S07.trans S8, hf, hk, k1000, fun H9 S9 => ?_⟩
        have kp9 := kp8.trans (Kp.of (C := fun b => b = e ∨ b = g) S9)
        have rc9 := rc8.same S9
        refine ⟨_, rfl, ?_⟩
        rw [List.length_map]
        cases c2 : mayS row.1 path.length il (kids row.2).length with
        | false =>
          refine iteT ?_
          have e1 : oneChk ed ka ks (chk ed ka ks d) il row path st1 = (some path, st1) := by unfold oneChk; rw [c1, c2]; rfl
          rw [e1] at eq
          exact ⟨_, rfl, rfl, refused kp9 rc9 (sameT (S8.trans S9) htp) (ke path (by rw [← eq]))⟩
        | true =>
        refine iteF ?_
        refine ⟨_, rfl, p, dx, _, rfl, rc9.ob, rfl, _, rfl, ?_⟩
        have l2 : len2 st1 ≤ 3000 := by omega
        refine ⟨p, rv, d, H0, row, fsOf row.1, ed, ka, ks, st1, a, s', e, g, dx, rfl, rc9, hra, S07.trans (S8.trans S9), ne, ng, hf, hk, by unfold len2 at l2; omega, by unfold len2 at l2; omega, fun H10 k10 rc10 => ?_⟩
        have kp10 := kp9.trans k10
        have htp10 : SqT K H10 tp (path.map V.int) := SqT.of (k10 _ _ (S9 _ _ (S8 _ _ hnew.1)) (by rintro (z | z); exact tpe z; exact tpg z))
        have hnew10 : H10 tp = some (.tup (path.map V.int)) := k10 _ _ (S9 _ _ (S8 _ _ hnew.1)) (by rintro (z | z); exact tpe z; exact tpg z)
        refine ⟨_, rfl, ?_⟩
        have nl := isNew_len (fsOf row.1) row.2 st1
        cases c3 : (isNew (fsOf row.1) row.2 st1).1 with
        | false =>
          refine iteT ?_
          have e1 : oneChk ed ka ks (chk ed ka ks d) il row path st1 = (some path, (isNew (fsOf row.1) row.2 st1).2) := by unfold oneChk; rw [c1, c2, c3]; rfl
          rw [e1] at eq
          exact ⟨_, rfl, rfl, refused kp10 rc10 htp10 (ke path (by rw [← eq]))⟩
        | true =>
        refine iteF ?_
        have e1 : oneChk ed ka ks (chk ed ka ks d) il row path st1 = seqChk (chk ed ka ks d (innerLoop row.1 il)) path (kids row.2) 0 (isNew (fsOf row.1) row.2 st1).2 := by unfold oneChk; rw [c1, c2, c3]; rfl
        generalize (isNew (fsOf row.1) row.2 st1).2 = st2 at rc10 e1 nl
        have S010 := HC kp10
        obtain ⟨b, bs, rfl, hb, hpb⟩ := id hra
        have hb10 := sameT S010 hb
        refine ⟨_, rfl, b, _, _, .str row.1, rfl, rfl, hb10, at0, rfl, _, rfl, ?_⟩
        have three : (row.1 = "loop") ∨ (row.1 ≠ "loop" ∧ il = true) ∨ (row.1 ≠ "loop" ∧ il = false) := by
          by_cases c : row.1 = "loop"
          · exact .inl c
          · cases il
            · exact .inr (.inr ⟨c, rfl⟩)
            · exact .inr (.inl ⟨c, rfl⟩)
        rcases three with c4 | ⟨c4, hil⟩ | ⟨c4, hil⟩
        (refine iteT' (decide_eq_true (by rw [c4])) ?_
         rw [show V.bl true = V.bl (innerLoop row.1 il) from by unfold innerLoop; simp [c4]])
        rotate_left
        (refine iteF' (decide_eq_false fun z => c4 (by injection z)) ?_
         refine ⟨_, rfl, _, rfl, ?_⟩
         refine iteT' hil ?_
         refine ⟨_, rfl, b, _, _, .str row.1, rfl, rfl, hb10, at0, rfl, ?_⟩
         rw [show V.bl (!decide (V.str row.1 = V.str "both")) = V.bl (innerLoop row.1 il) from by
           have z : decide (V.str row.1 = V.str "both") = decide (row.1 = "both") := by simp
           unfold innerLoop
           rw [z]
           simp [c4, hil]])
        rotate_left
        (refine iteF' (decide_eq_false fun z => c4 (by injection z)) ?_
         refine ⟨_, rfl, _, rfl, ?_⟩
         refine iteF' hil ?_
         rw [show V.bl false = V.bl (innerLoop row.1 il) from by unfold innerLoop; simp [c4, hil]])
        rotate_left
        all_goals
          refine ⟨_, rfl, _, H0, d, row, fsOf row.1, rfl, hra, S010, hf, hk, k1000, fun H11 L ls S11 nL hL hls => ?_⟩
          have kp11 := kp10.trans (Kp.of (C := fun b => b = e ∨ b = g) S11)
          have rc11 := rc10.same S11
          have LC : ¬ (L = e ∨ L = g) := by
            rintro (z | z)
            · rw [z, rc10.he] at nL; cases nL
            · rw [z, rc10.hg] at nL; cases nL
          refine ⟨L, _, rfl, SqL.of hL, ?_⟩
          refine for_it (walk_enum (K := K) (a := L) (xs := ls)) (fun j σ' H' => ∃ (st3 : Sn) (y8 y9 : Option V), σ' = [some (.ref p), some (.ref r), some (.ref t), some (.bl il), some (.int (i : Nat)), some (.ref b), some (.ref tp), some (.bl (innerLoop row.1 il)), y8, y9] ∧ Kp (fun b => b = e ∨ b = g) H11 H' ∧ RC K H' p ed ka ks st3 a s' e g dx ∧
              seqChk (chk ed ka ks d (innerLoop row.1 il)) path ((kids row.2).drop j) j st3 = oneChk ed ka ks (chk ed ka ks d) il row path st1 ∧ len2 st3 + (((kids row.2).drop j).map (lsz d)).sum + ((rows.drop (i + 1)).map (rsz (d + 1))).sum ≤ 3000)
            ⟨st2, _, _, rfl, Kp.refl _, rc11, e1.symm, by rw [List.drop_zero]; omega⟩ (fun j σ' H' _ q => ?_) (fun j x σ' H12 H13 hj q y => ?_) (fun σ' H' q => ?_)
          · obtain ⟨_, _, _, _, kp, _⟩ := q
            exact SqL.of (kp _ _ hL LC)
          · obtain ⟨st3, y8, y9, rfl, kp12, rc12, eq3, fw3⟩ := q
            obtain ⟨T2, num2, lv, rfl, nT2, rfl, hnum2, hlv⟩ := y
            cases Option.some.inj hnum2
            have hlv : ls[j]? = some lv := hlv
            obtain ⟨l, hl, c, cs, rfl, hc, hcs⟩ := hls.other hlv
            have eq3 := (seq_drop (f := chk ed ka ks d (innerLoop row.1 il)) (pre := path) (st := st3) hl).symm.trans eq3
            rw [sum_drop _ hl] at fw3
            obtain ⟨l1, l3⟩ := prk l (List.mem_of_getElem? hl)
            have S12 : Same H12 (upd H12 T2 (.tup [.int (j : Nat), .ref c])) := Same.new nT2
            refine ⟨T2, _, rfl, SqT.of upd_same, rfl, _, _, rfl, _, _, rfl, rfl, ?_⟩
            have kp13 := (kp11.trans kp12).trans (Kp.of (C := fun b => b = e ∨ b = g) S12)
            have rc13 := rc12.same S12
            have tp13 : upd H12 T2 (.tup [.int (j : Nat), .ref c]) tp = some (.tup (path.map V.int)) := S12 _ _ (kp12 _ _ (S11 _ _ hnew10) (by rintro (z | z); exact tpe z; exact tpg z))
            have k1113 := kp12.trans (Kp.of (C := fun b => b = e ∨ b = g) S12)
            generalize upd H12 T2 (.tup [.int (j : Nat), .ref c]) = H14 at kp13 rc13 tp13 k1113 ⊢
            refine ⟨_, rfl, p, dx, _, rfl, rc13.ob, rfl, _, rfl, _, rfl, _, rfl, by show 1 ≤ sizeLine; decide, fun t3 n3 => ?_⟩
            have S15 : Same H14 (upd H14 t3 (.tup [.int (j : Nat)])) := Same.new n3
            have h3 : upd H14 t3 (.tup [.int (j : Nat)]) t3 = some (.tup [.int (j : Nat)]) := upd_same
            generalize upd H14 t3 (.tup [.int (j : Nat)]) = H15 at S15 h3 ⊢
            refine cat_path (SqT.of (S15 _ _ tp13)) h3 (by rw [List.length_map]; omega) (fun H16 tq S16 htq hnew16 => ?_)
            have eq2 : path.map V.int ++ [V.int (j : Nat)] = (path ++ [(j : Int)]).map V.int := by simp
            rw [eq2] at htq hnew16
            have kp16 := (kp13.trans (Kp.of (C := fun b => b = e ∨ b = g) S15)).trans (Kp.of (C := fun b => b = e ∨ b = g) S16)
            have rc16 := (rc13.same S15).same S16
            have tqe : tq ≠ e := ne_of hnew16.1 rc16.he (by intro z; cases z)
            have tqg : tq ≠ g := ne_of hnew16.1 rc16.hg (by intro z; cases z)
            refine ⟨_, rfl, ?_⟩
            refine ⟨p, c, tq, _, H0, l, cs, path ++ [(j : Int)], ed, ka, ks, st3, a, s', e, g, dx, rfl, rc16, hc, HC kp16, ne, ng, hcs, l3, htq, by rw [List.length_append, List.length_singleton]; omega, by omega, tqe, tqg, fun hn H17 k17 rc17 => ?_, fun path' hp' => ?_⟩
            · have cl := chk_len ed ka ks d (innerLoop row.1 il) l (path ++ [(j : Int)]) st3
              generalize chk ed ka ks d (innerLoop row.1 il) l (path ++ [(j : Int)]) st3 = RES at hn rc17 eq3 cl
              obtain ⟨o, st4⟩ := RES
              simp only at hn rc17 cl
              subst hn
              exact ⟨st4, _, _, rfl, (k1113.trans ((Kp.of S15).trans (Kp.of S16))).trans k17, rc17, eq3, by omega⟩
            · generalize chk ed ka ks d (innerLoop row.1 il) l (path ++ [(j : Int)]) st3 = RES at hp' eq3
              obtain ⟨o, st4⟩ := RES
              simp only at hp'
              subst hp'
              rw [← eq3] at eq
              intro dd t' H' kk nd hd htt
              exact ke path' (by rw [← eq]) dd t' H' (kp16.trans kk) (RC.free kp16 rc16 nd) hd htt
          · obtain ⟨st3, y8, y9, rfl, kp12, rc12, eq3, fw3⟩ := q
            have z : (kids row.2).drop ls.length = [] := List.drop_of_length_le (by rw [hls.len]; exact Nat.le_refl _)
            rw [z] at eq3 fw3
            have eq3 : (none, st3) = _ := eq3
            rw [← eq3] at eq
            exact ⟨st3, _, _, _, _, _, _, rfl, kp11.trans kp12, rc12, eq, by rw [List.map_nil, List.sum_nil] at fw3; omega⟩
      · obtain ⟨st1, y1, y2, y3, y4, y5, y6, rfl, kp, rc1, eq, fw⟩ := q
        have z : rows.drop xs.length = [] := List.drop_of_length_le (by rw [hp.len]; exact Nat.le_refl _)
        rw [show (List.drop (α := Str × List (Pt (Row d))) xs.length rows) = [] from z] at eq
        have e1 : seqChk (oneChk ed ka ks (chk ed ka ks d) il) pre rows 0 st = (none, st1) := eq.symm
        rw [e1] at kq
        exact kq rfl H' kp rc1
end
end OR

set_option Elab.async false
set_option maxRecDepth 100000
set_option maxHeartbeats 4000000
set_option linter.all false
namespace OR
open PySem PySem.Spec PyProof.Rows L2 TS2
def spRCinit (K : PySem.W.Frag) : Sp := fun vs H Q _ => ∃ (p dx a s : Addr) (b : Bool), vs = [.ref p, .ref a, .ref s, .bl b] ∧ H p = some (.ins (He.ga K "RowCheck") dx []) ∧
  ∀ (H' : Hp) (e g : Addr), Kp (· = p) H H' → H' p = some (.ins (He.ga K "RowCheck") dx (rcF a s b e g)) → H' e = some (.dK []) → H' g = some (.dK []) → e ≠ g → H e = none → H g = none → Q .non H'
def spCheckRows (K : PySem.W.Frag) (d : Nat) : Sp := fun vs H Q E => ∃ (p : Addr) (v : V) (ed : Bool) (ka ks : List (Key × V)) (st : Sn) (a s e g dx : Addr), vs = [.ref p, v] ∧ RC K H p ed ka ks st a s e g dx ∧
  ((NotA K H v "list" ∧ Refuses K (fun b => b = e ∨ b = g) H "rows" [] E) ∨ ∃ (r : Addr) (H0 : Hp) (rows : List (Row d)) (xs : List V), v = .ref r ∧ H0 r = some (.lst xs) ∧ Same H0 H ∧ H0 e = none ∧ H0 g = none ∧ All2 (RowAt K H0 d) rows xs ∧ (∀ r ∈ rows, Pre d r) ∧ d ≤ 40 ∧ len2 st + lsz d rows ≤ 3000 ∧
    ((chk ed ka ks d false rows [] st).1 = none → ∀ H', Kp (fun b => b = e ∨ b = g) H H' → RC K H' p ed ka ks (chk ed ka ks d false rows [] st).2 a s e g dx → Q .non H') ∧
    (∀ path, (chk ed ka ks d false rows [] st).1 = some path → Refuses K (fun b => b = e ∨ b = g) H "rows" path E))
section
variable {P : Program} {w : World} {K : PySem.W.Frag} {mg : Str → Option Value} {base : Heap}
theorem ok_RCinit {f : Addr} {fd : FuncData} (F : FnP K "__init__" "RowCheck.__init__" s_RowCheck___init__ f fd) (T : Tx w K mg) : FnOk P w K mg base CX0 1 f fd p_RowCheck___init__ (spRCinit K) := by
  refine F.ok sc_RowCheck___init__ (fun vs H Q E h => ?_) (fun cdv A outer s H vs Q E hr h => ?_)
  · obtain ⟨p, dx, v, w, b, rfl, _⟩ := h
    rfl
  · obtain ⟨p, dx, a, s', b, rfl, hp, k⟩ := h
    refine ⟨_, PSs.nox (pss_cons (ps_fld (pv 0) (pv 1) rfl)
      (pss_cons (ps_fld (pv 0) (pv 2) rfl)
      (pss_cons (ps_fld (pv 0) (pv 3) rfl)
      (pss_cons (ps_fld (pv 0) pe_dnewK rfl)
      (pss_one (ps_fld (pv 0) pe_dnewK rfl)))))), ?_⟩
    refine ⟨_, rfl, _, rfl, p, _, dx, [], rfl, hp, T.c_RowCheck, T.n_RowCheck_ask_table, (by show 0 < 1000; decide), ?_⟩
    refine ⟨_, rfl, _, rfl, p, _, dx, _, rfl, upd_same, T.c_RowCheck, T.n_RowCheck_signal_table, (by show 1 < 1000; decide), ?_⟩
    refine ⟨_, rfl, _, rfl, p, _, dx, _, rfl, upd_same, T.c_RowCheck, T.n_RowCheck_with_edits, (by show 2 < 1000; decide), ?_⟩
    intro e nd
    have npd : p ≠ e := fun z => by rw [← z, upd_same] at nd; cases nd
    refine ⟨_, rfl, p, _, dx, _, rfl, (by rw [upd_ne npd]; exact upd_same), T.c_RowCheck, T.n_RowCheck_seen_edits, (by show 3 < 1000; decide), ?_⟩
    intro g nd2
    have npd2 : p ≠ g := fun z => by rw [← z, upd_same] at nd2; cases nd2
    have eg : e ≠ g := fun z => by rw [← z, upd_ne npd.symm, upd_same] at nd2; cases nd2
    have ne : H e = none := by rw [upd_ne npd.symm, upd_ne npd.symm, upd_ne npd.symm] at nd; exact nd
    have ng : H g = none := by
      rw [upd_ne npd2.symm, upd_ne eg.symm, upd_ne npd2.symm, upd_ne npd2.symm, upd_ne npd2.symm] at nd2
      exact nd2
    refine ⟨_, rfl, p, _, dx, _, rfl, (by rw [upd_ne npd2]; exact upd_same), T.c_RowCheck, T.n_RowCheck_seen_gates, (by show 4 < 1000; decide), ?_⟩
    refine k _ e g (fun b o hb nb => ?_) upd_same (by rw [upd_ne npd.symm, upd_ne eg, upd_ne npd.symm, upd_same]) (by rw [upd_ne npd2.symm, upd_same]) eg ne ng
    rw [upd_ne nb, upd_ne (ne_of_none hb ng), upd_ne nb, upd_ne (ne_of_none hb ne), upd_ne nb, upd_ne nb, upd_ne nb]
    exact hb
theorem ok_check_rows {k0 d : Nat} {f : Addr} {fd : FuncData} (F : FnP K "check_rows" "RowCheck.check_rows" s_RowCheck_check_rows f fd) (T : Tx w K mg) (h1 : 2 ≤ k0) (E_InvalidProgram : ErrDef P w K mg base CX0 1 "InvalidProgram" (cIP K) ["self", "part", "path"] ["part", "path"])
    (M_check_list : MDef P w K mg base (L2.CX P w) k0 (He.ga K "RowCheck") "check_list" p_RowCheck_check_list (spCheck K (d + 1))) : FnOk P w K mg base (L2.CX P w) (k0 + 1) f fd p_RowCheck_check_rows (spCheckRows K d) := by
  refine F.ok sc_RowCheck_check_rows (fun vs H Q E h => ?_) (fun cdv A outer s H vs Q E hr h => ?_)
  · obtain ⟨p, v, _, _, _, _, _, _, _, _, _, rfl, _⟩ := h
    rfl
  · obtain ⟨p, v, ed, ka, ks, st, a, s', e, g, dx, rfl, rc, h⟩ := h
    refine ⟨_, (pss_cons (ps_if (pt_not (pt_val (pe_callB call_isi (by rfl) T.b_isinstance (by decide +kernel) (pa_cons (pv 1) (pa_cons (pe_bltn (v := .ty "list") (u := .type "list") (by rfl) T.b_list (by decide +kernel) rfl) pa_nil))))) (pss_one (ps_raise rfl (takes_of rfl rfl rfl rfl) (pmk_errL E_InvalidProgram (hr.mono (by omega)) (by rfl) pass0 (pa_cons pe_str (pa_cons (pe_tup pa_nil) pa_nil))))) pss_nil)
      (pss_one (ps_expr (pe_mth M_check_list (hr.mono (by omega)) (passes_call (W := fun c d _ H => E c d H) (takes_of rfl rfl rfl rfl) (fun _ _ _ _ h => h)) (pv 0) (pa_cons (pv 1) (pa_cons (pe_tup pa_nil) (pa_cons pe_bl pa_nil))))))), ?_⟩
    rcases h with ⟨⟨ty, n1, n2⟩, ke⟩ | ⟨r, H0, rows, xs, rfl, hr0, S0, ne, ng, hp, prr, fd, few, kq, ke⟩
    · refine ⟨_, rfl, v, .ty "list", _, _, false, rfl, .ty _, n1, n2, _, rfl, ?_⟩
      refine iteT ?_
      refine ⟨by show 0 ≤ sizeLine; decide, fun t nt => ?_⟩
      exact ⟨rfl, refused (path := []) (Kp.of (Same.new nt)) (rc.same (Same.new nt)) (SqT.of upd_same) ke⟩
    · refine ⟨_, rfl, .ref r, .ty "list", _, _, true, rfl, .ty _, tyL (SqL.of (S0 _ _ hr0)), kit_ty (by decide +kernel), _, rfl, ?_⟩
      refine iteF ?_
      refine ⟨_, rfl, p, dx, _, rfl, rc.ob, rfl, _, rfl, by show 0 ≤ sizeLine; decide, fun t nt => ?_⟩
      have S1 : Same H (upd H t (.tup [])) := Same.new nt
      have ht : upd H t (.tup []) t = some (.tup []) := upd_same
      generalize upd H t (.tup []) = H1 at S1 ht ⊢
      have rc1 := rc.same S1
      have hd90 : ([] : List Int).length + 2 * d ≤ 90 := by
        show 0 + 2 * d ≤ 90
        omega
      refine ⟨p, r, t, false, H0, rows, xs, [], ed, ka, ks, st, a, s', e, g, dx, rfl, rc1, hr0, S0.trans S1, ne, ng, hp, prr, SqT.of ht, hd90, few, ne_of ht rc1.he (by intro z; cases z), ne_of ht rc1.hg (by intro z; cases z), fun hn H' k' rc' => kq hn H' ((Kp.of S1).trans k') rc', fun path hp' dd t' H' kk nd hd htt => ke path hp' dd t' H' ((Kp.of S1).trans kk) (S1.free nd) hd htt⟩
end
end OR

set_option Elab.async false
set_option maxRecDepth 100000
set_option maxHeartbeats 4000000
set_option linter.all false
namespace OR
open PySem PySem.Spec PyProof.Rows L2 TS2
/-- a row of any depth -/
abbrev AnyRow : Type := Σ e : Nat, Row (e + 1)
def flatR : (d : Nat) → Row d → List AnyRow
  | 0, r => nomatch r
  | d + 1, r => ⟨d, r⟩ :: ((kids r.2).map fun l => (l.map (flatR d)).flatten).flatten
def flatL (d : Nat) (rows : List (Row d)) : List AnyRow := (rows.map (flatR d)).flatten
theorem flat_len : ∀ (d : Nat) (r : Row d), (flatR d r).length = rsz d r
  | 0, r => nomatch r
  | d + 1, r => by
    have ih : ∀ l : List (Row d), ((l.map (flatR d)).flatten).length = lsz d l := fun l => by
      unfold lsz
      rw [List.length_flatten, List.map_map]
      congr 1
      refine List.map_congr_left fun x _ => ?_
      exact flat_len d x
    show (((kids r.2).map fun l => (l.map (flatR d)).flatten).flatten).length + 1 = 1 + ((kids r.2).map fun l => (l.map (rsz d)).sum).sum
    rw [List.length_flatten, List.map_map, Nat.add_comm]
    congr 2
    refine List.map_congr_left fun l _ => ?_
    exact ih l
theorem flatL_len (d : Nat) (l : List (Row d)) : (flatL d l).length = lsz d l := by
  unfold flatL lsz
  rw [List.length_flatten, List.map_map]
  congr 1
  refine List.map_congr_left fun x _ => ?_
  exact flat_len d x
/-! ### the plan of rows -/
structure PM where
  fl : List AnyRow
  pl : List (List Int)
  bh : List Int
  en : List (List Int)
  sd : List (List Int)
  st : List Int
def PM.row (P : PM) (x : AnyRow) (path : List Int) (b : Int) : PM := ⟨P.fl ++ [x], P.pl ++ [path], P.bh ++ [b], P.en ++ [[]], P.sd ++ [[]], P.st⟩
def PM.entry (P : PM) (h : Nat) (x : Int) : PM := { P with en := P.en.set h (P.en.getD h [] ++ [x]) }
def PM.side (P : PM) (h : Nat) (x : Int) : PM := { P with sd := P.sd.set h (P.sd.getD h [] ++ [(P.st.length : Int)]), st := P.st ++ [x] }
def endOf (w : Str) (here b : Int) : Int := if w = "loop" then here else if w = "both" then -1 else b
/-- a list of a row is begun -/
def PM.first (P : PM) (w : Str) (here : Nat) (x : Int) : PM := if w = "both" then (P.entry here x).side here x else P.entry here x
def firstAt {R : Type} (l : List R) (e : Int) (P : PM) : Int := if l.length = 0 then e else P.fl.length
/-- the lists of a row, one after another -/
def layK {R : Type} (f : List R → List Int → Int → Int → PM → PM) (w : Str) (here : Nat) (path : List Int) (b ex : Int) : List (List R) → Nat → PM → PM
  | [], _, P => P
  | l :: ls, j, P => layK f w here path b ex ls (j + 1) (f l (path ++ [(j : Int)]) (endOf w here b) (if w = "loop" then b else ex) (P.first w here (firstAt l (endOf w here b) P)))
/-- the rows of a list, one after another -/
def layS {R : Type} (g : R → List Int → Int → Int → PM → PM) (sz : R → Nat) (n : Nat) (pre : List Int) (e ex : Int) : List R → Nat → PM → PM
  | [], _, P => P
  | r :: rs, i, P => layS g sz n pre e ex rs (i + 1) (g r (pre ++ [(i : Int)]) (if i + 1 < n then ((P.fl.length + sz r : Nat) : Int) else e) ex P)
def layR : (d : Nat) → Row d → List Int → Int → Int → PM → PM
  | 0, r, _, _, _, _ => nomatch r
  | d + 1, r, path, b, ex, P => layK (fun l pre e x P => layS (layR d) (rsz d) l.length pre e x l 0 P) r.1 P.fl.length path b ex (kids r.2) 0 (P.row ⟨d, r⟩ path (if r.1 = "leave" then ex else b))
def layL (d : Nat) (rows : List (Row d)) (pre : List Int) (e ex : Int) (P : PM) : PM := layS (layR d) (rsz d) rows.length pre e ex rows 0 P
structure PM.Ok (P : PM) : Prop where
  p : P.pl.length = P.fl.length
  b : P.bh.length = P.fl.length
  e : P.en.length = P.fl.length
  s : P.sd.length = P.fl.length
theorem PM.Ok.row {P : PM} (h : P.Ok) (x : AnyRow) (path : List Int) (b : Int) : (P.row x path b).Ok := ⟨by simp [PM.row, h.p], by simp [PM.row, h.b], by simp [PM.row, h.e], by simp [PM.row, h.s]⟩
theorem PM.Ok.entry {P : PM} (h : P.Ok) (k : Nat) (x : Int) : (P.entry k x).Ok := ⟨h.p, h.b, by simp [PM.entry, h.e], h.s⟩
theorem PM.Ok.side {P : PM} (h : P.Ok) (k : Nat) (x : Int) : (P.side k x).Ok := ⟨h.p, h.b, h.e, by simp [PM.side, h.s]⟩
theorem PM.Ok.first {P : PM} (h : P.Ok) (w : Str) (here : Nat) (x : Int) : (P.first w here x).Ok ∧ (P.first w here x).fl = P.fl ∧ P.st.length ≤ (P.first w here x).st.length ∧ (P.first w here x).st.length ≤ P.st.length + 1 := by
  unfold PM.first
  split
  · exact ⟨(h.entry _ _).side _ _, rfl, by simp [PM.side, PM.entry], by simp [PM.side, PM.entry]⟩
  · exact ⟨h.entry _ _, rfl, Nat.le_refl _, by simp [PM.entry]⟩
/-- how far a plan grew: n rows at most k starts each -/
structure Grew (P P' : PM) (fl : List AnyRow) (t : Nat) : Prop where
  ok : P'.Ok
  f : P'.fl = P.fl ++ fl
  t1 : P.st.length ≤ P'.st.length
  t2 : P'.st.length ≤ P.st.length + t
theorem Grew.mono {P P' : PM} {fl : List AnyRow} {t t' : Nat} (g : Grew P P' fl t) (h : t ≤ t') : Grew P P' fl t' := ⟨g.ok, g.f, g.t1, Nat.le_trans g.t2 (by omega)⟩
theorem grew_layK {R : Type} {f : List R → List Int → Int → Int → PM → PM} {w : Str} {here : Nat} {path : List Int} {b ex : Int} {fl : List R → List AnyRow} {t : List R → Nat} : ∀ (ls : List (List R)) (j : Nat) (P : PM), P.Ok → (∀ l ∈ ls, ∀ pre e x P, P.Ok → Grew P (f l pre e x P) (fl l) (t l)) →
    Grew P (layK f w here path b ex ls j P) (ls.map fl).flatten (ls.length + (ls.map t).sum)
  | [], j, P, h, _ => ⟨h, by simp [layK], Nat.le_refl _, by simp [layK]⟩
  | l :: ls, j, P, h, k => by
    unfold layK
    have h2 := h.first w here (firstAt l (endOf w here b) P)
    generalize P.first w here (firstAt l (endOf w here b) P) = P2 at h2 ⊢
    have g1 := k l List.mem_cons_self (path ++ [(j : Int)]) (endOf w here b) (if w = "loop" then b else ex) P2 h2.1
    have g2 := grew_layK (f := f) (w := w) (here := here) (path := path) (b := b) (ex := ex) ls (j + 1) _ g1.ok fun l' hl' => k l' (List.mem_cons_of_mem _ hl')
    refine ⟨g2.ok, ?_, ?_, ?_⟩
    · rw [g2.f, g1.f, h2.2.1]
      simp
    · have := g1.t1; have := g2.t1; omega
    · have := g1.t2; have := g2.t2
      simp only [List.length_cons, List.map_cons, List.sum_cons]
      omega
theorem grew_layS {R : Type} {g : R → List Int → Int → Int → PM → PM} {sz : R → Nat} {n : Nat} {pre : List Int} {e ex : Int} {fl : R → List AnyRow} {t : R → Nat} : ∀ (rs : List R) (i : Nat) (P : PM), P.Ok → (∀ r ∈ rs, ∀ path b x P, P.Ok → Grew P (g r path b x P) (fl r) (t r)) →
    Grew P (layS g sz n pre e ex rs i P) (rs.map fl).flatten (rs.map t).sum
  | [], i, P, h, _ => ⟨h, by simp [layS], Nat.le_refl _, by simp [layS]⟩
  | r :: rs, i, P, h, k => by
    unfold layS
    have g1 := k r List.mem_cons_self (pre ++ [(i : Int)]) (if i + 1 < n then ((P.fl.length + sz r : Nat) : Int) else e) ex P h
    have g2 := grew_layS (g := g) (sz := sz) (n := n) (pre := pre) (e := e) (ex := ex) rs (i + 1) _ g1.ok fun l' hl' => k l' (List.mem_cons_of_mem _ hl')
    refine ⟨g2.ok, ?_, ?_, ?_⟩
    · rw [g2.f, g1.f]
      simp
    · have := g1.t1; have := g2.t1; omega
    · have := g1.t2; have := g2.t2
      simp only [List.map_cons, List.sum_cons]
      omega
theorem sum_le_mul {α : Type} (c : Nat) (f : α → Nat) : ∀ l : List α, (l.map fun x => c * f x).sum = c * (l.map f).sum
  | [] => by simp
  | x :: l => by rw [List.map_cons, List.sum_cons, sum_le_mul c f l, List.map_cons, List.sum_cons, Nat.mul_add]
theorem grew_layR : ∀ (d : Nat) (r : Row d), Shape d r → ∀ path b ex P, P.Ok → Grew P (layR d r path b ex P) (flatR d r) (1000 * rsz d r)
  | 0, r, _, _, _, _, _, _ => nomatch r
  | d + 1, r, sh, path, b, ex, P, h => by
    obtain ⟨_, _, k1000, sk⟩ := id sh
    have h1 := h.row ⟨d, r⟩ path (if r.1 = "leave" then ex else b)
    have g := grew_layK (f := fun l pre e x P => layS (layR d) (rsz d) l.length pre e x l 0 P) (w := r.1) (here := P.fl.length) (path := path) (b := b) (ex := ex) (fl := flatL d) (t := fun l => 1000 * lsz d l) (kids r.2) 0 _ h1 fun l hl pre e x P hP => by
      have g0 := grew_layS (g := layR d) (sz := rsz d) (n := l.length) (pre := pre) (e := e) (ex := x) (fl := flatR d) (t := fun r => 1000 * rsz d r) l 0 P hP fun r' hr' path b x P hP => grew_layR d r' ((sk l hl).2 r' hr') path b x P hP
      rw [sum_le_mul] at g0
      exact g0
    rw [sum_le_mul] at g
    have e : rsz (d + 1) r = 1 + ((kids r.2).map (lsz d)).sum := rfl
    refine ⟨g.ok, ?_, g.t1, ?_⟩
    · have := g.f
      show (layK _ r.1 P.fl.length path b ex (kids r.2) 0 _).fl = _
      rw [this]
      show (P.fl ++ [⟨d, r⟩]) ++ _ = P.fl ++ (⟨d, r⟩ :: _)
      rw [List.append_assoc]
      rfl
    · have := g.t2
      have e3 : (P.row ⟨d, r⟩ path (if r.1 = "leave" then ex else b)).st.length = P.st.length := rfl
      rw [e3] at this
      rw [e]
      show (layK _ r.1 P.fl.length path b ex (kids r.2) 0 _).st.length ≤ _
      omega
theorem grew_layL (d : Nat) (rows : List (Row d)) (sh : ∀ r ∈ rows, Shape d r) (pre : List Int) (e ex : Int) (P : PM) (h : P.Ok) : Grew P (layL d rows pre e ex P) (flatL d rows) (1000 * lsz d rows) := by
  have g0 := grew_layS (g := layR d) (sz := rsz d) (n := rows.length) (pre := pre) (e := e) (ex := ex) (fl := flatR d) (t := fun r => 1000 * rsz d r) rows 0 P h fun r' hr' path b x P hP => grew_layR d r' (sh r' hr') path b x P hP
  rw [sum_le_mul] at g0
  exact g0
/-- the cells ahead of n stand -/
def Keeps (n : Nat) (P P' : PM) : Prop := ∀ h, h < n → P'.en.getD h [] = P.en.getD h [] ∧ P'.sd.getD h [] = P.sd.getD h []
theorem Keeps.trans {n : Nat} {P P1 P2 : PM} (a : Keeps n P P1) (b : Keeps n P1 P2) : Keeps n P P2 := fun h hn => ⟨(b h hn).1.trans (a h hn).1, (b h hn).2.trans (a h hn).2⟩
theorem getD_set_ne {α : Type} {l : List α} {i j : Nat} {x d : α} (h : i ≠ j) : (l.set i x).getD j d = l.getD j d := by
  rw [List.getD_eq_getElem?_getD, List.getD_eq_getElem?_getD, List.getElem?_set_ne h]
theorem Keeps.first (P : PM) (w : Str) (here : Nat) (x : Int) : Keeps here P (P.first w here x) := fun h hn => by
  unfold PM.first
  split
  · exact ⟨getD_set_ne (Nat.ne_of_gt hn), getD_set_ne (Nat.ne_of_gt hn)⟩
  · exact ⟨getD_set_ne (Nat.ne_of_gt hn), rfl⟩
theorem Keeps.row (P : PM) (ok : P.Ok) (x : AnyRow) (path : List Int) (b : Int) : Keeps P.fl.length P (P.row x path b) := fun h hn => by
  refine ⟨?_, ?_⟩
  · show (P.en ++ [[]]).getD h [] = _
    rw [List.getD_eq_getElem?_getD, List.getD_eq_getElem?_getD, List.getElem?_append_left (by rw [ok.e]; exact hn)]
  · show (P.sd ++ [[]]).getD h [] = _
    rw [List.getD_eq_getElem?_getD, List.getD_eq_getElem?_getD, List.getElem?_append_left (by rw [ok.s]; exact hn)]
theorem keeps_layK {R : Type} {f : List R → List Int → Int → Int → PM → PM} {w : Str} {here : Nat} {path : List Int} {b ex : Int} {fl : List R → List AnyRow} {t : List R → Nat} : ∀ (ls : List (List R)) (j : Nat) (P : PM), P.Ok → here ≤ P.fl.length → (∀ l ∈ ls, ∀ pre e x P, P.Ok → Grew P (f l pre e x P) (fl l) (t l) ∧ Keeps P.fl.length P (f l pre e x P)) →
    Keeps here P (layK f w here path b ex ls j P)
  | [], j, P, h, _, _ => fun _ _ => ⟨rfl, rfl⟩
  | l :: ls, j, P, h, hh, k => by
    unfold layK
    have h2 := h.first w here (firstAt l (endOf w here b) P)
    have k2 := Keeps.first P w here (firstAt l (endOf w here b) P)
    generalize P.first w here (firstAt l (endOf w here b) P) = P2 at h2 k2 ⊢
    obtain ⟨g1, k1⟩ := k l List.mem_cons_self (path ++ [(j : Int)]) (endOf w here b) (if w = "loop" then b else ex) P2 h2.1
    have k3 := keeps_layK (f := f) (w := w) (here := here) (path := path) (b := b) (ex := ex) (fl := fl) (t := t) ls (j + 1) _ g1.ok (by rw [g1.f, List.length_append, h2.2.1]; omega) fun l' hl' => k l' (List.mem_cons_of_mem _ hl')
    refine (k2.trans fun x hx => k1 x (by rw [h2.2.1]; omega)).trans k3
theorem keeps_layS {R : Type} {g : R → List Int → Int → Int → PM → PM} {sz : R → Nat} {n : Nat} {pre : List Int} {e ex : Int} {fl : R → List AnyRow} {t : R → Nat} : ∀ (rs : List R) (i : Nat) (P : PM), P.Ok → (∀ r ∈ rs, ∀ path b x P, P.Ok → Grew P (g r path b x P) (fl r) (t r) ∧ Keeps P.fl.length P (g r path b x P)) →
    Keeps P.fl.length P (layS g sz n pre e ex rs i P)
  | [], i, P, h, _ => fun _ _ => ⟨rfl, rfl⟩
  | r :: rs, i, P, h, k => by
    unfold layS
    obtain ⟨g1, k1⟩ := k r List.mem_cons_self (pre ++ [(i : Int)]) (if i + 1 < n then ((P.fl.length + sz r : Nat) : Int) else e) ex P h
    have k2 := keeps_layS (g := g) (sz := sz) (n := n) (pre := pre) (e := e) (ex := ex) (fl := fl) (t := t) rs (i + 1) _ g1.ok fun l' hl' => k l' (List.mem_cons_of_mem _ hl')
    exact k1.trans fun x hx => k2 x (by rw [g1.f, List.length_append]; omega)
theorem keeps_layR : ∀ (d : Nat) (r : Row d), Shape d r → ∀ path b ex P, P.Ok → Keeps P.fl.length P (layR d r path b ex P)
  | 0, r, _, _, _, _, _, _ => nomatch r
  | d + 1, r, sh, path, b, ex, P, h => by
    obtain ⟨_, _, k1000, sk⟩ := id sh
    have h1 := h.row ⟨d, r⟩ path (if r.1 = "leave" then ex else b)
    refine (Keeps.row P h _ _ _).trans (keeps_layK (f := layL d) (w := r.1) (here := P.fl.length) (path := path) (b := b) (ex := ex) (fl := flatL d) (t := fun l => 1000 * lsz d l) (kids r.2) 0 _ h1 (by show _ ≤ (P.fl ++ [_]).length; simp) fun l hl pre e x P hP => ⟨grew_layL d l (sk l hl).2 pre e x P hP, ?_⟩)
    exact keeps_layS (g := layR d) (sz := rsz d) (n := l.length) (pre := pre) (e := e) (ex := x) (fl := flatR d) (t := fun r => 1000 * rsz d r) l 0 P hP fun r' hr' path b x P hP => ⟨grew_layR d r' ((sk l hl).2 r' hr') path b x P hP, keeps_layR d r' ((sk l hl).2 r' hr') path b x P hP⟩
theorem keeps_layL (d : Nat) (rows : List (Row d)) (sh : ∀ r ∈ rows, Shape d r) (pre : List Int) (e ex : Int) (P : PM) (h : P.Ok) : Keeps P.fl.length P (layL d rows pre e ex P) :=
  keeps_layS (g := layR d) (sz := rsz d) (n := rows.length) (pre := pre) (e := e) (ex := ex) (fl := flatR d) (t := fun r => 1000 * rsz d r) rows 0 P h fun r' hr' path b x P hP => ⟨grew_layR d r' (sh r' hr') path b x P hP, keeps_layR d r' (sh r' hr') path b x P hP⟩
theorem PM.first_len {P : PM} {w : Str} {here : Nat} {x : Int} (he : here < P.en.length) (hs : here < P.sd.length) : ((P.first w here x).en.getD here []).length = (P.en.getD here []).length + 1 ∧ ((P.first w here x).sd.getD here []).length ≤ (P.sd.getD here []).length + 1 := by
  have e1 : ∀ {l : List (List Int)} {y : List Int}, here < l.length → (l.set here y).getD here [] = y := fun h => by
    rw [List.getD_eq_getElem?_getD, List.getElem?_set_self h]
    rfl
  unfold PM.first
  split
  · refine ⟨?_, ?_⟩
    · show ((P.en.set here _).getD here []).length = _
      rw [e1 he]
      simp
    · show ((P.sd.set here _).getD here []).length ≤ _
      rw [e1 hs]
      simp [PM.entry]
  · refine ⟨?_, Nat.le_succ _⟩
    show ((P.en.set here _).getD here []).length = _
    rw [e1 he]
    simp
end OR

set_option Elab.async false
set_option maxRecDepth 100000
set_option maxHeartbeats 4000000
set_option linter.all false
namespace OR
open PySem PySem.Spec PyProof.Rows L2 TS2
def planF (a b c d e f : Addr) : List (Str × V) := [("flat", .ref a), ("places", .ref b), ("behind", .ref c), ("entries", .ref d), ("sides", .ref e), ("starts", .ref f)]
/-- the six lists of a plan -/
abbrev C6 (a1 a2 a3 a4 a5 a6 : Addr) : Addr → Prop := fun b => b = a1 ∨ b = a2 ∨ b = a3 ∨ b = a4 ∨ b = a5 ∨ b = a6
structure PL (K : PySem.W.Frag) (H : Hp) (p dx a1 a2 a3 a4 a5 a6 : Addr) (F Pa B E S T : List V) : Prop where
  ob : H p = some (.ins (He.ga K "Plan") dx (planF a1 a2 a3 a4 a5 a6))
  h1 : H a1 = some (.lst F)
  h2 : H a2 = some (.lst Pa)
  h3 : H a3 = some (.lst B)
  h4 : H a4 = some (.lst E)
  h5 : H a5 = some (.lst S)
  h6 : H a6 = some (.lst T)
  nd : [a1, a2, a3, a4, a5, a6].Nodup
section
variable {K : PySem.W.Frag} {H H' : Hp} {p dx a1 a2 a3 a4 a5 a6 : Addr} {F Pa B E S T : List V}
theorem PL.same (c : PL K H p dx a1 a2 a3 a4 a5 a6 F Pa B E S T) (s : Same H H') : PL K H' p dx a1 a2 a3 a4 a5 a6 F Pa B E S T := ⟨s _ _ c.ob, s _ _ c.h1, s _ _ c.h2, s _ _ c.h3, s _ _ c.h4, s _ _ c.h5, s _ _ c.h6, c.nd⟩
theorem PL.np (c : PL K H p dx a1 a2 a3 a4 a5 a6 F Pa B E S T) : p ≠ a1 ∧ p ≠ a2 ∧ p ≠ a3 ∧ p ≠ a4 ∧ p ≠ a5 ∧ p ≠ a6 :=
  ⟨ne_of c.ob c.h1 (by intro z; cases z), ne_of c.ob c.h2 (by intro z; cases z), ne_of c.ob c.h3 (by intro z; cases z), ne_of c.ob c.h4 (by intro z; cases z), ne_of c.ob c.h5 (by intro z; cases z), ne_of c.ob c.h6 (by intro z; cases z)⟩
theorem PL.ns (c : PL K H p dx a1 a2 a3 a4 a5 a6 F Pa B E S T) : (a1 ≠ a2 ∧ a1 ≠ a3 ∧ a1 ≠ a4 ∧ a1 ≠ a5 ∧ a1 ≠ a6) ∧ (a2 ≠ a3 ∧ a2 ≠ a4 ∧ a2 ≠ a5 ∧ a2 ≠ a6) ∧ (a3 ≠ a4 ∧ a3 ≠ a5 ∧ a3 ≠ a6) ∧ (a4 ≠ a5 ∧ a4 ≠ a6) ∧ a5 ≠ a6 := by
  have n := c.nd
  simp only [List.nodup_cons, List.mem_cons, List.not_mem_nil, or_false, not_or, List.nodup_nil, and_true] at n
  obtain ⟨n1, n2, n3, n4, n5, _⟩ := n
  exact ⟨n1, n2, n3, n4, n5⟩
theorem PL.put1 (c : PL K H p dx a1 a2 a3 a4 a5 a6 F Pa B E S T) (X : List V) : PL K (upd H a1 (.lst X)) p dx a1 a2 a3 a4 a5 a6 X Pa B E S T := by
  obtain ⟨⟨q1, q2, q3, q4, q5⟩, _⟩ := c.ns
  exact ⟨by rw [upd_ne c.np.1]; exact c.ob, upd_same, by rw [upd_ne q1.symm]; exact c.h2, by rw [upd_ne q2.symm]; exact c.h3, by rw [upd_ne q3.symm]; exact c.h4, by rw [upd_ne q4.symm]; exact c.h5, by rw [upd_ne q5.symm]; exact c.h6, c.nd⟩
theorem PL.put2 (c : PL K H p dx a1 a2 a3 a4 a5 a6 F Pa B E S T) (X : List V) : PL K (upd H a2 (.lst X)) p dx a1 a2 a3 a4 a5 a6 F X B E S T := by
  obtain ⟨⟨q1, _⟩, ⟨q2, q3, q4, q5⟩, _⟩ := c.ns
  exact ⟨by rw [upd_ne c.np.2.1]; exact c.ob, by rw [upd_ne q1]; exact c.h1, upd_same, by rw [upd_ne q2.symm]; exact c.h3, by rw [upd_ne q3.symm]; exact c.h4, by rw [upd_ne q4.symm]; exact c.h5, by rw [upd_ne q5.symm]; exact c.h6, c.nd⟩
theorem PL.put3 (c : PL K H p dx a1 a2 a3 a4 a5 a6 F Pa B E S T) (X : List V) : PL K (upd H a3 (.lst X)) p dx a1 a2 a3 a4 a5 a6 F Pa X E S T := by
  obtain ⟨⟨_, q1, _⟩, ⟨q2, _⟩, ⟨q3, q4, q5⟩, _⟩ := c.ns
  exact ⟨by rw [upd_ne c.np.2.2.1]; exact c.ob, by rw [upd_ne q1]; exact c.h1, by rw [upd_ne q2]; exact c.h2, upd_same, by rw [upd_ne q3.symm]; exact c.h4, by rw [upd_ne q4.symm]; exact c.h5, by rw [upd_ne q5.symm]; exact c.h6, c.nd⟩
theorem PL.put4 (c : PL K H p dx a1 a2 a3 a4 a5 a6 F Pa B E S T) (X : List V) : PL K (upd H a4 (.lst X)) p dx a1 a2 a3 a4 a5 a6 F Pa B X S T := by
  obtain ⟨⟨_, _, q1, _⟩, ⟨_, q2, _⟩, ⟨q3, _⟩, ⟨q4, q5⟩, _⟩ := c.ns
  exact ⟨by rw [upd_ne c.np.2.2.2.1]; exact c.ob, by rw [upd_ne q1]; exact c.h1, by rw [upd_ne q2]; exact c.h2, by rw [upd_ne q3]; exact c.h3, upd_same, by rw [upd_ne q4.symm]; exact c.h5, by rw [upd_ne q5.symm]; exact c.h6, c.nd⟩
theorem PL.put5 (c : PL K H p dx a1 a2 a3 a4 a5 a6 F Pa B E S T) (X : List V) : PL K (upd H a5 (.lst X)) p dx a1 a2 a3 a4 a5 a6 F Pa B E X T := by
  obtain ⟨⟨_, _, _, q1, _⟩, ⟨_, _, q2, _⟩, ⟨_, q3, _⟩, ⟨q4, _⟩, q5⟩ := c.ns
  exact ⟨by rw [upd_ne c.np.2.2.2.2.1]; exact c.ob, by rw [upd_ne q1]; exact c.h1, by rw [upd_ne q2]; exact c.h2, by rw [upd_ne q3]; exact c.h3, by rw [upd_ne q4]; exact c.h4, upd_same, by rw [upd_ne q5.symm]; exact c.h6, c.nd⟩
theorem PL.put6 (c : PL K H p dx a1 a2 a3 a4 a5 a6 F Pa B E S T) (X : List V) : PL K (upd H a6 (.lst X)) p dx a1 a2 a3 a4 a5 a6 F Pa B E S X := by
  obtain ⟨⟨_, _, _, _, q1⟩, ⟨_, _, _, q2⟩, ⟨_, _, q3⟩, ⟨_, q4⟩, q5⟩ := c.ns
  exact ⟨by rw [upd_ne c.np.2.2.2.2.2]; exact c.ob, by rw [upd_ne q1]; exact c.h1, by rw [upd_ne q2]; exact c.h2, by rw [upd_ne q3]; exact c.h3, by rw [upd_ne q4]; exact c.h4, by rw [upd_ne q5]; exact c.h5, upd_same, c.nd⟩
/-- another object is written -/
theorem PL.other (c : PL K H p dx a1 a2 a3 a4 a5 a6 F Pa B E S T) {b : Addr} {o : HO} (n : ¬ C6 a1 a2 a3 a4 a5 a6 b) (np : b ≠ p) : PL K (upd H b o) p dx a1 a2 a3 a4 a5 a6 F Pa B E S T :=
  ⟨by rw [upd_ne np.symm]; exact c.ob, by rw [upd_ne (fun z => n (.inl z.symm))]; exact c.h1, by rw [upd_ne (fun z => n (.inr (.inl z.symm)))]; exact c.h2, by rw [upd_ne (fun z => n (.inr (.inr (.inl z.symm))))]; exact c.h3, by rw [upd_ne (fun z => n (.inr (.inr (.inr (.inl z.symm)))))]; exact c.h4,
    by rw [upd_ne (fun z => n (.inr (.inr (.inr (.inr (.inl z.symm))))))]; exact c.h5, by rw [upd_ne (fun z => n (.inr (.inr (.inr (.inr (.inr z.symm))))))]; exact c.h6, c.nd⟩
theorem PL.new (c : PL K H p dx a1 a2 a3 a4 a5 a6 F Pa B E S T) {b : Addr} (n : H b = none) : ¬ C6 a1 a2 a3 a4 a5 a6 b := by
  rintro (z | z | z | z | z | z)
  · rw [z, c.h1] at n; cases n
  · rw [z, c.h2] at n; cases n
  · rw [z, c.h3] at n; cases n
  · rw [z, c.h4] at n; cases n
  · rw [z, c.h5] at n; cases n
  · rw [z, c.h6] at n; cases n
end
def AnyAt (K : PySem.W.Frag) (H : Hp) (x : AnyRow) (v : V) : Prop := RowAt K H (x.1 + 1) x.2 v

def PathsAt (H : Hp) (pl : List (List Int)) (pa : List Addr) : Prop := All2 (fun ns a => H a = some (.tup (ns.map V.int))) pl pa
def CellsAt (H : Hp) (en : List (List Int)) (ce : List Addr) : Prop := All2 (fun is c => H c = some (.lst (is.map V.int))) en ce
/-- the plan P stands at p -/
structure PAtx (K : PySem.W.Frag) (H0 H : Hp) (p dx a1 a2 a3 a4 a5 a6 : Addr) (F : List V) (pa ce cs : List Addr) (P : PM) : Prop where
  pl : PL K H p dx a1 a2 a3 a4 a5 a6 F (pa.map V.ref) (P.bh.map V.int) (ce.map V.ref) (cs.map V.ref) (P.st.map V.int)
  fl : All2 (AnyAt K H0) P.fl F
  pt : PathsAt H P.pl pa
  en : CellsAt H P.en ce
  sd : CellsAt H P.sd cs
  nd : (ce ++ cs).Nodup
  out : ∀ c ∈ ce ++ cs, ¬ C6 a1 a2 a3 a4 a5 a6 c
def PAt (K : PySem.W.Frag) (H0 H : Hp) (p dx a1 a2 a3 a4 a5 a6 : Addr) (P : PM) : Prop := ∃ F pa ce cs, PAtx K H0 H p dx a1 a2 a3 a4 a5 a6 F pa ce cs P
theorem All2.set {α β : Type} {R R' : α → β → Prop} {xs : List α} {ys : List β} (h : All2 R xs ys) : ∀ (i : Nat) (x : α), (∀ j x y, j ≠ i → xs[j]? = some x → ys[j]? = some y → R x y → R' x y) → (∀ y, ys[i]? = some y → R' x y) → All2 R' (xs.set i x) ys := by
  induction h with
  | nil => intro i x _ _; exact .nil
  | cons h t ih =>
    intro i x k1 k2
    cases i with
    | zero =>
      refine .cons (k2 _ rfl) ?_
      have k3 : ∀ (j : Nat) x y, _ → _ → R x y → R' x y := fun j x y e1 e2 r => k1 (j + 1) x y (by omega) e1 e2 r
      clear k1 k2 ih h
      induction t with
      | nil => exact .nil
      | cons h t ih => exact .cons (k3 0 _ _ rfl rfl h) (ih fun j x y e1 e2 r => k3 (j + 1) x y e1 e2 r)
    | succ i => exact .cons (k1 0 _ _ (by omega) rfl rfl h) (ih i x (fun j x y n e1 e2 r => k1 (j + 1) x y (by omega) e1 e2 r) k2)
section
variable {K : PySem.W.Frag} {H0 H H' : Hp} {p dx a1 a2 a3 a4 a5 a6 : Addr} {F : List V} {pa ce cs : List Addr} {P : PM}
theorem PL.noTup {F P2 B E S T xs : List V} (c : PL K H p dx a1 a2 a3 a4 a5 a6 F P2 B E S T) {t : Addr} (h1 : H t = some (.tup xs)) : ¬ C6 a1 a2 a3 a4 a5 a6 t := by
  rintro (z | z | z | z | z | z)
  · rw [z, c.h1] at h1; cases h1
  · rw [z, c.h2] at h1; cases h1
  · rw [z, c.h3] at h1; cases h1
  · rw [z, c.h4] at h1; cases h1
  · rw [z, c.h5] at h1; cases h1
  · rw [z, c.h6] at h1; cases h1
theorem PathsAt.kp {C : Addr → Prop} {pl : List (List Int)} (h : PathsAt H pl pa) (k : Kp C H H') (n : ∀ t xs, H t = some (.tup xs) → ¬ C t) : PathsAt H' pl pa := h.imp fun _ _ _ e => k _ _ e (n _ _ e)
theorem CellsAt.kp {C : Addr → Prop} {en : List (List Int)} (h : CellsAt H en ce) (k : Kp C H H') (n : ∀ c ∈ ce, ¬ C c) : CellsAt H' en ce := by
  unfold CellsAt at h ⊢
  induction h with
  | nil => exact .nil
  | cons h t ih => exact .cons (k _ _ h (n _ List.mem_cons_self)) (ih fun c hc => n c (List.mem_cons_of_mem _ hc))
theorem PAtx.same (c : PAtx K H0 H p dx a1 a2 a3 a4 a5 a6 F pa ce cs P) (s : Same H H') : PAtx K H0 H' p dx a1 a2 a3 a4 a5 a6 F pa ce cs P :=
  ⟨c.pl.same s, c.fl, c.pt.imp fun _ _ _ e => s _ _ e, c.en.imp fun _ _ _ e => s _ _ e, c.sd.imp fun _ _ _ e => s _ _ e, c.nd, c.out⟩
theorem PAt.same (c : PAt K H0 H p dx a1 a2 a3 a4 a5 a6 P) (s : Same H H') : PAt K H0 H' p dx a1 a2 a3 a4 a5 a6 P := by
  obtain ⟨F, pa, ce, cs, c⟩ := c
  exact ⟨F, pa, ce, cs, c.same s⟩
theorem PAtx.cell (c : PAtx K H0 H p dx a1 a2 a3 a4 a5 a6 F pa ce cs P) {h : Nat} (hl : h < P.en.length) : ∃ e, ce[h]? = some e ∧ H e = some (.lst ((P.en.getD h []).map V.int)) := by
  have e1 : P.en[h]? = some P.en[h] := List.getElem?_eq_getElem hl
  obtain ⟨e, he, hr⟩ := c.en.right e1
  exact ⟨e, he, by rw [hr, List.getD_eq_getElem?_getD, e1]; rfl⟩
theorem PAtx.cellS (c : PAtx K H0 H p dx a1 a2 a3 a4 a5 a6 F pa ce cs P) {h : Nat} (hl : h < P.sd.length) : ∃ e, cs[h]? = some e ∧ H e = some (.lst ((P.sd.getD h []).map V.int)) := by
  have e1 : P.sd[h]? = some P.sd[h] := List.getElem?_eq_getElem hl
  obtain ⟨e, he, hr⟩ := c.sd.right e1
  exact ⟨e, he, by rw [hr, List.getD_eq_getElem?_getD, e1]; rfl⟩
theorem nodup_ne {xs : List Addr} (n : xs.Nodup) {i j : Nat} {x y : Addr} (hi : xs[i]? = some x) (hj : xs[j]? = some y) (h : i ≠ j) : x ≠ y := fun e => by
  obtain ⟨l1, e1⟩ := List.getElem?_eq_some_iff.mp hi
  obtain ⟨l2, e2⟩ := List.getElem?_eq_some_iff.mp hj
  have q := List.pairwise_iff_getElem.mp n
  rcases Nat.lt_or_gt_of_ne h with g | g
  · exact q i j l1 l2 g (by rw [e1, e2, e])
  · exact q j i l2 l1 g (by rw [e1, e2, e])
/-- a first place is put down -/
theorem PAtx.entry (c : PAtx K H0 H p dx a1 a2 a3 a4 a5 a6 F pa ce cs P) {h : Nat} {e : Addr} (he : ce[h]? = some e) (hv : H e = some (.lst ((P.en.getD h []).map V.int))) (x : Int) :
    PAtx K H0 (upd H e (.lst ((P.en.getD h []).map V.int ++ [.int x]))) p dx a1 a2 a3 a4 a5 a6 F pa ce cs (P.entry h x) := by
  have em : e ∈ ce ++ cs := List.mem_append_left _ (List.mem_of_getElem? he)
  have np : e ≠ p := ne_of hv c.pl.ob (by intro z; cases z)
  have ev : (P.en.getD h []).map V.int ++ [V.int x] = (P.en.getD h [] ++ [x]).map V.int := by simp
  refine ⟨c.pl.other (c.out _ em) np, c.fl, c.pt.imp fun _ _ _ q => ?_, ?_, ?_, c.nd, c.out⟩
  · rw [upd_ne (ne_of q hv (by intro z; cases z))]
    exact q
  · refine All2.set c.en h _ (fun j x y n h1 h2 r => ?_) (fun y hy => ?_)
    · rw [upd_ne (nodup_ne (List.nodup_append.mp c.nd).1 h2 he n)]
      exact r
    · rw [he] at hy
      cases hy
      rw [upd_same, ev]
  · have dis := (List.nodup_append.mp c.nd).2.2
    refine CellsAt.kp (C := (· = e)) c.sd (Kp.put rfl) fun d hd z => ?_
    exact dis e (List.mem_of_getElem? he) d hd z.symm
/-- a branch is numbered -/
theorem PAtx.side (c : PAtx K H0 H p dx a1 a2 a3 a4 a5 a6 F pa ce cs P) {h : Nat} {e : Addr} (he : cs[h]? = some e) (hv : H e = some (.lst ((P.sd.getD h []).map V.int))) (x : Int) :
    PAtx K H0 (upd (upd H e (.lst ((P.sd.getD h []).map V.int ++ [.int (P.st.length : Nat)]))) a6 (.lst (P.st.map V.int ++ [.int x]))) p dx a1 a2 a3 a4 a5 a6 F pa ce cs (P.side h x) := by
  have em : e ∈ ce ++ cs := List.mem_append_right _ (List.mem_of_getElem? he)
  have np : e ≠ p := ne_of hv c.pl.ob (by intro z; cases z)
  have ev : (P.sd.getD h []).map V.int ++ [V.int (P.st.length : Nat)] = (P.sd.getD h [] ++ [(P.st.length : Int)]).map V.int := by simp
  have e2 : P.st.map V.int ++ [V.int x] = (P.st ++ [x]).map V.int := by simp
  have n6 : ∀ c' ∈ ce ++ cs, c' ≠ a6 := fun c' hc z => c.out c' hc (.inr (.inr (.inr (.inr (.inr z)))))
  have t6 : ∀ {t : Addr} {xs : List V}, H t = some (.tup xs) → t ≠ a6 := fun q z => c.pl.noTup q (.inr (.inr (.inr (.inr (.inr z)))))
  have pl2 := (c.pl.other (o := .lst ((P.sd.getD h []).map V.int ++ [.int (P.st.length : Nat)])) (c.out _ em) np).put6 (P.st.map V.int ++ [.int x])
  rw [e2] at pl2 ⊢
  refine ⟨pl2, c.fl, c.pt.imp fun _ _ _ q => ?_, ?_, ?_, c.nd, c.out⟩
  · rw [upd_ne (t6 q), upd_ne (ne_of q hv (by intro z; cases z))]
    exact q
  · have dis := (List.nodup_append.mp c.nd).2.2
    refine CellsAt.kp (C := fun b => b = e ∨ b = a6) c.en (fun b o hb nb => ?_) fun d hd z => ?_
    · rw [upd_ne (fun z => nb (.inr z)), upd_ne (fun z => nb (.inl z))]
      exact hb
    · rcases z with z | z
      · exact dis d hd e (List.mem_of_getElem? he) z
      · exact n6 d (List.mem_append_left _ hd) z
  · refine All2.set c.sd h _ (fun j x y n h1 h2 r => ?_) (fun y hy => ?_)
    · rw [upd_ne (n6 y (List.mem_append_right _ (List.mem_of_getElem? h2))), upd_ne (nodup_ne (List.nodup_append.mp c.nd).2.1 h2 he n)]
      exact r
    · rw [he] at hy
      cases hy
      rw [upd_ne (n6 e em), upd_same, ev]
end
def spEnd (K : PySem.W.Frag) : Sp := fun vs H Q _ => ∃ (v : V) (x y : Int) (d : Nat) (r : Row (d + 1)), vs = [v, .int x, .int y] ∧ RowAt K H (d + 1) r v ∧ Q (.int (endOf r.1 x y)) H
section
variable {P : Program} {w : World} {K : PySem.W.Frag} {mg : Str → Option Value} {base : Heap}
theorem ok_end_within {f : Addr} {fd : FuncData} (F : FnP K "end_within" "end_within" s_end_within f fd) (T : Tx w K mg) : FnOk P w K mg base CX0 1 f fd p_end_within (spEnd K) := by
  refine F.ok sc_end_within (fun vs H Q E h => ?_) (fun cdv A outer s H vs Q E hr h => ?_)
  · obtain ⟨v, x, y, _, _, rfl, _⟩ := h
    rfl
  · obtain ⟨v, x, y, d, r, rfl, ⟨a, vs, rfl, ha, _⟩, k⟩ := h
    obtain ⟨t1, mTHROUGH⟩ := T.m_THROUGH
    refine ⟨_, PSs.nox (pss_cons (ps_if (pt_cmpR op_eq (pe_ix ix_tup (pv 0) pe_int (fun _ _ => rfl)) pe_str (nomark _)) (pss_one (ps_ret (pv 1))) pss_nil)
      (pss_cons (ps_if (pt_cmpR op_eq (pe_ix ix_tup (pv 0) pe_int (fun _ _ => rfl)) pe_str (nomark _)) (pss_one (ps_ret (pe_glob (by rfl) mTHROUGH (show RelV (.int (-1)) _ from ⟨_, rfl⟩)))) pss_nil)
      (pss_one (ps_ret (pv 2))))), ?_⟩
    refine ⟨_, rfl, a, _, _, .str r.1, rfl, rfl, ha, at0, rfl, _, rfl, ?_⟩
    have dec : ∀ z : Str, decide (V.str r.1 = V.str z) = decide (r.1 = z) := fun z => by
      congr 1
      exact propext ⟨fun q => V.str.inj q, fun q => congrArg V.str q⟩
    have e : endOf r.1 x y = (if r.1 = "loop" then x else if r.1 = "both" then -1 else y) := rfl
    rw [e] at k
    refine ite2 (fun h => ⟨_, rfl, ?_⟩) fun h => ?_
    · rw [if_pos (of_decide_eq_true ((dec _).symm.trans h))] at k
      exact k
    rw [if_neg fun z => h ((dec _).trans (decide_eq_true z))] at k
    refine ⟨_, rfl, a, _, _, .str r.1, rfl, rfl, ha, at0, rfl, _, rfl, ?_⟩
    refine ite2 (fun h => ?_) fun h => ⟨_, rfl, ?_⟩
    · rw [if_pos (of_decide_eq_true ((dec _).symm.trans h))] at k
      exact k
    · rw [if_neg fun z => h ((dec _).trans (decide_eq_true z))] at k
      exact k
end
end OR

set_option Elab.async false
set_option maxRecDepth 100000
set_option maxHeartbeats 8000000
set_option linter.all false
namespace OR
open PySem PySem.Spec PyProof.Rows L2 TS2
theorem at_mid {X Y : List V} {v : V} {n : Nat} (h : X.length = n) : atI ((X ++ [v]) ++ Y) (n : Int) = some v := by
  refine atI_nat ?_
  rw [List.append_assoc, List.getElem?_append_right (by omega), h]
  simp
/-- a plan laid on: more rows, more cells -/
def Laid (K : PySem.W.Frag) (H0 H H' : Hp) (p dx a1 a2 a3 a4 a5 a6 : Addr) (F : List V) (pa ce cs : List Addr) (P' : PM) : Prop :=
  Kp (C6 a1 a2 a3 a4 a5 a6) H H' ∧ ∃ F2 pa2 ce2 cs2, PAtx K H0 H' p dx a1 a2 a3 a4 a5 a6 (F ++ F2) (pa ++ pa2) (ce ++ ce2) (cs ++ cs2) P' ∧ ∀ c ∈ ce2 ++ cs2, H c = none
theorem new_app {H : Hp} {a b c d : List Addr} (h1 : ∀ x ∈ a ++ b, H x = none) (h2 : ∀ x ∈ c ++ d, H x = none) : ∀ x ∈ (a ++ c) ++ (b ++ d), H x = none := fun x hx => by
  rcases List.mem_append.mp hx with h | h <;> rcases List.mem_append.mp h with h | h
  · exact h1 x (List.mem_append_left _ h)
  · exact h2 x (List.mem_append_left _ h)
  · exact h1 x (List.mem_append_right _ h)
  · exact h2 x (List.mem_append_right _ h)
def RoomP (P : PM) (n : Nat) : Prop := P.Ok ∧ P.fl.length + n ≤ 3000 ∧ P.st.length + 1000 * n ≤ 4000000
def spLayRow (K : PySem.W.Frag) : Nat → Sp
  | 0 => fun _ _ _ _ => False
  | d + 1 => fun vs H Q _ => ∃ (p tp : Addr) (v : V) (b ex : Int) (H0 : Hp) (r : Row (d + 1)) (dx a1 a2 a3 a4 a5 a6 : Addr) (F : List V) (pa ce cs : List Addr) (P : PM) (ns : List Int), vs = [.ref p, v, .ref tp, .int b, .int ex] ∧ PAtx K H0 H p dx a1 a2 a3 a4 a5 a6 F pa ce cs P ∧ RoomP P (rsz (d + 1) r) ∧
    RowAt K H0 (d + 1) r v ∧ Same H0 H ∧ Sep H0 (C6 a1 a2 a3 a4 a5 a6) ∧ Shape (d + 1) r ∧ H tp = some (.tup (ns.map V.int)) ∧ ns.length + 2 * d + 1 ≤ 90 ∧ ∀ H', Laid K H0 H H' p dx a1 a2 a3 a4 a5 a6 F pa ce cs (layR (d + 1) r ns b ex P) → Q .non H'
def spLayList (K : PySem.W.Frag) : Nat → Sp
  | 0 => fun _ _ _ _ => False
  | d + 1 => fun vs H Q _ => ∃ (p ra tp : Addr) (e ex : Int) (H0 : Hp) (rows : List (Row d)) (xs : List V) (dx a1 a2 a3 a4 a5 a6 : Addr) (F : List V) (pa ce cs : List Addr) (P : PM) (ns : List Int), vs = [.ref p, .ref ra, .ref tp, .int e, .int ex] ∧ PAtx K H0 H p dx a1 a2 a3 a4 a5 a6 F pa ce cs P ∧ RoomP P (lsz d rows) ∧
    H0 ra = some (.lst xs) ∧ All2 (RowAt K H0 d) rows xs ∧ Same H0 H ∧ Sep H0 (C6 a1 a2 a3 a4 a5 a6) ∧ (∀ r ∈ rows, Shape d r) ∧ H tp = some (.tup (ns.map V.int)) ∧ ns.length + 2 * d ≤ 90 ∧ ∀ H', Laid K H0 H H' p dx a1 a2 a3 a4 a5 a6 F pa ce cs (layL d rows ns e ex P) → Q .non H'
theorem strq (a b : Str) : decide (V.str a = V.str b) = decide (a = b) := by
  congr 1
  exact propext ⟨fun q => V.str.inj q, fun q => congrArg V.str q⟩
section
variable {P : Program} {w : World} {K : PySem.W.Frag} {mg : Str → Option Value} {base : Heap}
theorem ok_lay_row {k0 d : Nat} {f : Addr} {fd : FuncData} (F0 : FnP K "lay_row" "Plan.lay_row" s_Plan_lay_row f fd) (T0 : Tx w K mg) (h1 : 1 ≤ k0) (G_lists_of : Def P w K mg base CX0 1 "lists_of" p_lists_of (spListsOf K)) (G_end_within : Def P w K mg base CX0 1 "end_within" p_end_within (spEnd K))
    (M_lay_list : MDef P w K mg base CX0 k0 (He.ga K "Plan") "lay_list" p_Plan_lay_list (spLayList K (d + 1))) : FnOk P w K mg base CX0 (k0 + 1) f fd p_Plan_lay_row (spLayRow K (d + 1)) := by
  have T := T0
  refine F0.ok sc_Plan_lay_row (fun vs H Q E h => ?_) (fun cdv A outer s H vs Q E hr h => ?_)
  · obtain ⟨p, tp, v, b, ex, _, _, _, _, _, _, _, _, _, _, _, _, _, _, _, rfl, _⟩ := h
    rfl
  · obtain ⟨p, tp, v, bh, ex, H0, r, dx, a1, a2, a3, a4, a5, a6, F, pa, ce, cs, P, ns, rfl, c, ⟨ok, lF, lT⟩, hra, S0, sep, sh, htp, fewp, k⟩ := h
    obtain ⟨b, vs, rfl, hb, hpb⟩ := id hra
    obtain ⟨⟨fs, hf, hk⟩, wl, k1000, sk⟩ := id sh
    have er : rsz (d + 1) r = 1 + ((kids r.2).map (lsz d)).sum := rfl
    have pl := c.pl
    have lFF : F.length = P.fl.length := c.fl.len.symm
    have lpa : pa.length = P.fl.length := by rw [← c.pt.len, ok.p]
    have lce : ce.length = P.fl.length := by rw [← c.en.len, ok.e]
    have lcs : cs.length = P.fl.length := by rw [← c.sd.len, ok.s]
    have tpC : ¬ C6 a1 a2 a3 a4 a5 a6 tp := pl.noTup htp
    rw [er] at lF lT
    refine ⟨_, PSs.nox (pss_cons (ps_set (i := 5) sc_Plan_lay_row.nd rfl (.inl rfl) (pe_callB call_len_seq (by rfl) T.b_len PySem.boot_len (pa_cons (pe_fld (pv 0) rfl) pa_nil)))
      (pss_cons (ps_expr (pe_bm PySem.F.plainAttrs_list PySem.F.slot_list_append PySem.F.type_list_append mt_append (pe_fld (pv 0) rfl) (pa_cons (pv 1) pa_nil)))
      (pss_cons (ps_expr (pe_bm PySem.F.plainAttrs_list PySem.F.slot_list_append PySem.F.type_list_append mt_append (pe_fld (pv 0) rfl) (pa_cons (pv 2) pa_nil)))
      (pss_cons (ps_expr (pe_bm PySem.F.plainAttrs_list PySem.F.slot_list_append PySem.F.type_list_append mt_append (pe_fld (pv 0) rfl) (pa_cons (pe_ifExp (pt_cmpR op_eq (pe_ix ix_tup (pv 1) pe_int (fun _ _ => rfl)) pe_str (nomark _)) (pv 4) (pv 3)) pa_nil)))
      (pss_cons (ps_expr (pe_bm PySem.F.plainAttrs_list PySem.F.slot_list_append PySem.F.type_list_append mt_append (pe_fld (pv 0) rfl) (pa_cons (pe_lst pa_nil) pa_nil)))
      (pss_cons (ps_expr (pe_bm PySem.F.plainAttrs_list PySem.F.slot_list_append PySem.F.type_list_append mt_append (pe_fld (pv 0) rfl) (pa_cons (pe_lst pa_nil) pa_nil)))
      (pss_one (ps_for PassesOwn.never rfl (pi_enum (by rfl) T.b_enumerate (pa_cons (pe_fn G_lists_of (hr.mono (by omega)) (by rfl) pass0 (pa_cons (pv 1) pa_nil)) pa_nil)) (pg_tup (by rfl) (pgs_cons (pg_name (i := 6) sc_Plan_lay_row.nd rfl (.inl rfl)) (pgs_cons (pg_name (i := 7) sc_Plan_lay_row.nd rfl (.inl rfl)) pgs_nil))) (pss_cons (ps_set (i := 8) sc_Plan_lay_row.nd rfl (.inl rfl) (pe_fn G_end_within (hr.mono (by omega)) (by rfl) pass0 (pa_cons (pv 1) (pa_cons (pv 5) (pa_cons (pv 3) pa_nil)))))
      (pss_cons (ps_set (i := 9) sc_Plan_lay_row.nd rfl (.inl rfl) (pe_ifExp (pt_cmpR op_eq (pe_callB call_len_seq (by rfl) T.b_len PySem.boot_len (pa_cons (pv 7) pa_nil)) pe_int (nomark _)) (pv 8) (pe_callB call_len_seq (by rfl) T.b_len PySem.boot_len (pa_cons (pe_fld (pv 0) rfl) pa_nil))))
      (pss_cons (ps_expr (pe_bm PySem.F.plainAttrs_list PySem.F.slot_list_append PySem.F.type_list_append mt_append (pe_ix ix_list (pe_fld (pv 0) rfl) (pv 5) (fun _ _ => rfl)) (pa_cons (pv 9) pa_nil)))
      (pss_cons (ps_if (pt_cmpR op_eq (pe_ix ix_tup (pv 1) pe_int (fun _ _ => rfl)) pe_str (nomark _)) (pss_cons (ps_expr (pe_bm PySem.F.plainAttrs_list PySem.F.slot_list_append PySem.F.type_list_append mt_append (pe_ix ix_list (pe_fld (pv 0) rfl) (pv 5) (fun _ _ => rfl)) (pa_cons (pe_callB call_len_seq (by rfl) T.b_len PySem.boot_len (pa_cons (pe_fld (pv 0) rfl) pa_nil)) pa_nil)))
      (pss_one (ps_expr (pe_bm PySem.F.plainAttrs_list PySem.F.slot_list_append PySem.F.type_list_append mt_append (pe_fld (pv 0) rfl) (pa_cons (pv 9) pa_nil))))) pss_nil)
      (pss_one (ps_expr (pe_mth M_lay_list (hr.mono (by omega)) pass0 (pv 0) (pa_cons (pv 7) (pa_cons (pe_op op_catA (pv 2) (pe_tup (pa_cons (pv 6) pa_nil))) (pa_cons (pv 8) (pa_cons (pe_ifExp (pt_cmpR op_eq (pe_ix ix_tup (pv 1) pe_int (fun _ _ => rfl)) pe_str (nomark _)) (pv 3) (pv 4)) pa_nil))))))))))))))))))), ?_⟩
    refine ⟨_, rfl, p, _, dx, _, .ref a1, rfl, pl.ob, T.c_Plan, T.n_Plan_flat, rfl, a1, _, rfl, .inl (SqL.of pl.h1), ?_⟩
    rw [lFF]
    -- flat
    refine ⟨_, rfl, p, _, dx, _, .ref a1, rfl, pl.ob, T.c_Plan, T.n_Plan_flat, rfl, .inl ⟨rfl, _, SqL.of pl.h1⟩, _, rfl, a1, F, _, rfl, rfl, pl.h1, by rw [sizeLine_eq]; omega, ?_⟩
    have pl1 := pl.put1 (F ++ [.ref b])
    have k1 : Kp (C6 a1 a2 a3 a4 a5 a6) H (upd H a1 (.lst (F ++ [.ref b]))) := Kp.put (C := C6 a1 a2 a3 a4 a5 a6) (.inl rfl)
    generalize upd H a1 (.lst (F ++ [.ref b])) = H1 at pl1 k1 ⊢
    -- places
    refine ⟨_, rfl, p, _, dx, _, .ref a2, rfl, pl1.ob, T.c_Plan, T.n_Plan_places, rfl, .inl ⟨rfl, _, SqL.of pl1.h2⟩, _, rfl, a2, _, _, rfl, rfl, pl1.h2, by rw [List.length_map, sizeLine_eq]; omega, ?_⟩
    have pl2 := pl1.put2 (pa.map V.ref ++ [.ref tp])
    have k2 : Kp (C6 a1 a2 a3 a4 a5 a6) H (upd H1 a2 (.lst (pa.map V.ref ++ [.ref tp]))) := k1.trans (Kp.put (C := C6 a1 a2 a3 a4 a5 a6) (.inr (.inl rfl)))
    generalize upd H1 a2 (.lst (pa.map V.ref ++ [.ref tp])) = H2 at pl2 k2 ⊢
    have base : ∀ {H' : Hp}, Kp (C6 a1 a2 a3 a4 a5 a6) H H' → Same H0 H' := fun k => Kp.base S0 k sep
    -- behind
    refine ⟨_, rfl, p, _, dx, _, .ref a3, rfl, pl2.ob, T.c_Plan, T.n_Plan_behind, rfl, .inl ⟨rfl, _, SqL.of pl2.h3⟩, ?_⟩
    refine ⟨_, rfl, b, _, _, .str r.1, rfl, rfl, sameT (base k2) hb, at0, rfl, _, rfl, ?_⟩
    refine ite2 (fun hw => ⟨_, rfl, a3, _, .int ex, rfl, rfl, pl2.h3, by rw [List.length_map, sizeLine_eq, ok.b]; omega, ?_⟩) (fun hw => ⟨_, rfl, a3, _, .int bh, rfl, rfl, pl2.h3, by rw [List.length_map, sizeLine_eq, ok.b]; omega, ?_⟩)
    (have eb : (if r.1 = "leave" then ex else bh) = ex := if_pos (of_decide_eq_true ((strq _ _).symm.trans hw))
     have pl3 := pl2.put3 (P.bh.map V.int ++ [.int ex])
     have k3 : Kp (C6 a1 a2 a3 a4 a5 a6) H (upd H2 a3 (.lst (P.bh.map V.int ++ [.int ex]))) := k2.trans (Kp.put (C := C6 a1 a2 a3 a4 a5 a6) (.inr (.inr (.inl rfl))))
     generalize upd H2 a3 (.lst (P.bh.map V.int ++ [.int ex])) = H3 at pl3 k3 ⊢
     rw [← eb] at pl3)
    rotate_left
    (have eb : (if r.1 = "leave" then ex else bh) = bh := if_neg fun z => hw ((strq _ _).trans (decide_eq_true z))
     have pl3 := pl2.put3 (P.bh.map V.int ++ [.int bh])
     have k3 : Kp (C6 a1 a2 a3 a4 a5 a6) H (upd H2 a3 (.lst (P.bh.map V.int ++ [.int bh]))) := k2.trans (Kp.put (C := C6 a1 a2 a3 a4 a5 a6) (.inr (.inr (.inl rfl))))
     generalize upd H2 a3 (.lst (P.bh.map V.int ++ [.int bh])) = H3 at pl3 k3 ⊢
     rw [← eb] at pl3)
    rotate_left
    all_goals
      -- entries
      refine ⟨_, rfl, p, _, dx, _, .ref a4, rfl, pl3.ob, T.c_Plan, T.n_Plan_entries, rfl, .inl ⟨rfl, _, SqL.of pl3.h4⟩, by show 0 ≤ sizeLine; decide, fun e1 ne1 => ?_⟩
      have ce1 := pl3.new ne1
      have pe1 : p ≠ e1 := ne_of_none pl3.ob ne1
      have pl4 := (pl3.same (Same.new (o := .lst []) ne1)).put4 (ce.map V.ref ++ [.ref e1])
      have h4 := (pl3.same (Same.new (o := .lst []) ne1)).h4
      refine ⟨a4, _, _, rfl, rfl, h4, by rw [List.length_map, sizeLine_eq]; omega, ?_⟩
      have k4 : Kp (C6 a1 a2 a3 a4 a5 a6) H (upd (upd H3 e1 (.lst [])) a4 (.lst (ce.map V.ref ++ [.ref e1]))) := (k3.trans (Kp.of (Same.new ne1))).trans (Kp.put (C := C6 a1 a2 a3 a4 a5 a6) (.inr (.inr (.inr (.inl rfl)))))
      have he4 : upd (upd H3 e1 (.lst [])) a4 (.lst (ce.map V.ref ++ [.ref e1])) e1 = some (.lst []) := by rw [upd_ne (fun z => ce1 (.inr (.inr (.inr (.inl z))))), upd_same]
      have He1 : H e1 = none := by
        cases q : H e1 with
        | none => rfl
        | some o => rw [k3 _ _ q ce1] at ne1; cases ne1
      generalize upd (upd H3 e1 (.lst [])) a4 (.lst (ce.map V.ref ++ [.ref e1])) = H4 at pl4 k4 he4 ⊢
      -- sides
      refine ⟨_, rfl, p, _, dx, _, .ref a5, rfl, pl4.ob, T.c_Plan, T.n_Plan_sides, rfl, .inl ⟨rfl, _, SqL.of pl4.h5⟩, by show 0 ≤ sizeLine; decide, fun s1 ns1 => ?_⟩
      have cs1 := pl4.new ns1
      have ps1 : p ≠ s1 := ne_of_none pl4.ob ns1
      have es1 : e1 ≠ s1 := ne_of_none he4 ns1
      have pl5 := (pl4.same (Same.new (o := .lst []) ns1)).put5 (cs.map V.ref ++ [.ref s1])
      have h5 := (pl4.same (Same.new (o := .lst []) ns1)).h5
      refine ⟨a5, _, _, rfl, rfl, h5, by rw [List.length_map, sizeLine_eq]; omega, ?_⟩
      have k5 : Kp (C6 a1 a2 a3 a4 a5 a6) H (upd (upd H4 s1 (.lst [])) a5 (.lst (cs.map V.ref ++ [.ref s1]))) := (k4.trans (Kp.of (Same.new ns1))).trans (Kp.put (C := C6 a1 a2 a3 a4 a5 a6) (.inr (.inr (.inr (.inr (.inl rfl))))))
      have hs5 : upd (upd H4 s1 (.lst [])) a5 (.lst (cs.map V.ref ++ [.ref s1])) s1 = some (.lst []) := by rw [upd_ne (fun z => cs1 (.inr (.inr (.inr (.inr (.inl z)))))), upd_same]
      have he5 : upd (upd H4 s1 (.lst [])) a5 (.lst (cs.map V.ref ++ [.ref s1])) e1 = some (.lst []) := by rw [upd_ne (fun z => ce1 (.inr (.inr (.inr (.inr (.inl z)))))), upd_ne es1]; exact he4
      have Hs1 : H s1 = none := by
        cases q : H s1 with
        | none => rfl
        | some o => rw [k4 _ _ q cs1] at ns1; cases ns1
      have cells : ∀ {C : List Addr} {X : List (List Int)}, CellsAt H X C → e1 ∉ C ∧ s1 ∉ C := fun h => by
        have all : ∀ x ∈ _, H x ≠ none := fun x hx => by
          obtain ⟨i, hi, e⟩ := List.mem_iff_getElem.mp hx
          obtain ⟨y, _, r⟩ := All2.other h (i := i) (by rw [List.getElem?_eq_getElem hi, e])
          rw [r]; simp
        exact ⟨fun z => all _ z He1, fun z => all _ z Hs1⟩
      generalize upd (upd H4 s1 (.lst [])) a5 (.lst (cs.map V.ref ++ [.ref s1])) = H5 at pl5 k5 he5 hs5 ⊢
      have c5 : PAtx K H0 H5 p dx a1 a2 a3 a4 a5 a6 (F ++ [.ref b]) (pa ++ [tp]) (ce ++ [e1]) (cs ++ [s1]) (P.row ⟨d, r⟩ ns (if r.1 = "leave" then ex else bh)) := by
        refine ⟨by simpa [PM.row] using pl5, c.fl.app (All2.one hra), (c.pt.kp k5 fun t xs q => pl.noTup q).app (All2.one (k5 _ _ htp tpC)), (c.en.kp k5 fun x hx => c.out x (List.mem_append_left _ hx)).app (All2.one he5), (c.sd.kp k5 fun x hx => c.out x (List.mem_append_right _ hx)).app (All2.one hs5), ?_, ?_⟩
        · obtain ⟨x1, x2⟩ := cells c.en
          obtain ⟨x3, x4⟩ := cells c.sd
          have nd := List.nodup_append.mp c.nd
          refine List.nodup_append.mpr ⟨List.nodup_append.mpr ⟨nd.1, by simp, fun a ha b hb => ?_⟩, List.nodup_append.mpr ⟨nd.2.1, by simp, fun a ha b hb => ?_⟩, fun a ha b hb => ?_⟩
          · rw [List.mem_singleton.mp hb]; exact fun z => x1 (z ▸ ha)
          · rw [List.mem_singleton.mp hb]; exact fun z => x4 (z ▸ ha)
          · rcases List.mem_append.mp ha with ha | ha <;> rcases List.mem_append.mp hb with hb | hb
            · exact nd.2.2 a ha b hb
            · rw [List.mem_singleton.mp hb]; exact fun z => x2 (z ▸ ha)
            · rw [List.mem_singleton.mp ha]; exact fun z => x3 (z ▸ hb)
            · rw [List.mem_singleton.mp ha, List.mem_singleton.mp hb]; exact es1
        · intro x hx
          rcases List.mem_append.mp hx with hx | hx <;> rcases List.mem_append.mp hx with hx | hx
          · exact c.out x (List.mem_append_left _ hx)
          · rw [List.mem_singleton.mp hx]; exact ce1
          · exact c.out x (List.mem_append_right _ hx)
          · rw [List.mem_singleton.mp hx]; exact cs1
      have ok5 := ok.row ⟨d, r⟩ ns (if r.1 = "leave" then ex else bh)
      have fl5 : (P.row ⟨d, r⟩ ns (if r.1 = "leave" then ex else bh)).fl.length = P.fl.length + 1 := by show (P.fl ++ [_]).length = _; simp
      have st5 : (P.row ⟨d, r⟩ ns (if r.1 = "leave" then ex else bh)).st.length = P.st.length := rfl
      have en5 : ((P.row ⟨d, r⟩ ns (if r.1 = "leave" then ex else bh)).en.getD P.fl.length []).length = 0 := by
        show ((P.en ++ [[]]).getD P.fl.length []).length = 0
        rw [List.getD_eq_getElem?_getD, List.getElem?_append_right (by rw [ok.e]; exact Nat.le_refl _), ok.e]
        simp
      have sd5 : ((P.row ⟨d, r⟩ ns (if r.1 = "leave" then ex else bh)).sd.getD P.fl.length []).length = 0 := by
        show ((P.sd ++ [[]]).getD P.fl.length []).length = 0
        rw [List.getD_eq_getElem?_getD, List.getElem?_append_right (by rw [ok.s]; exact Nat.le_refl _), ok.s]
        simp
      have efin : layR (d + 1) r ns bh ex P = layK (layL d) r.1 P.fl.length ns bh ex (kids r.2) 0 (P.row ⟨d, r⟩ ns (if r.1 = "leave" then ex else bh)) := rfl
      rw [efin] at k
      generalize P.row ⟨d, r⟩ ns (if r.1 = "leave" then ex else bh) = P5 at c5 ok5 fl5 st5 en5 sd5 k
      -- the lists within
      refine ⟨_, rfl, _, H0, d, r, fs, rfl, hra, base k5, hf, hk, k1000, fun H6 L ls S6 nL hL hls => ?_⟩
      have c6 := c5.same S6
      have k6 := k5.trans (Kp.of (C := C6 a1 a2 a3 a4 a5 a6) S6)
      have cL := c5.pl.new nL
      have Le : L ≠ e1 := fun z => by rw [z, he5] at nL; cases nL
      have Ls : L ≠ s1 := fun z => by rw [z, hs5] at nL; cases nL
      have wide : ∀ {H' : Hp}, Kp (fun c => C6 a1 a2 a3 a4 a5 a6 c ∨ c = e1 ∨ c = s1) H6 H' → Kp (C6 a1 a2 a3 a4 a5 a6) H H' := fun kk c o hc nc => kk c o (k6 c o hc nc) (by
        rintro (z | z | z)
        · exact nc z
        · rw [z, He1] at hc; cases hc
        · rw [z, Hs1] at hc; cases hc)
      generalize hFIN : layK (layL d) r.1 P.fl.length ns bh ex (kids r.2) 0 P5 = FIN at k
      refine ⟨L, _, rfl, SqL.of hL, ?_⟩
      refine for_it (walk_enum (K := K) (a := L) (xs := ls)) (fun j σ' H' => ∃ (F2 : List V) (pa2 ce2 cs2 : List Addr) (Pj : PM) (y6 y7 y8 y9 : Option V), σ' = [some (.ref p), some (.ref b), some (.ref tp), some (.int bh), some (.int ex), some (.int (P.fl.length : Nat)), y6, y7, y8, y9] ∧
          Kp (fun c => C6 a1 a2 a3 a4 a5 a6 c ∨ c = e1 ∨ c = s1) H6 H' ∧ PAtx K H0 H' p dx a1 a2 a3 a4 a5 a6 ((F ++ [.ref b]) ++ F2) ((pa ++ [tp]) ++ pa2) ((ce ++ [e1]) ++ ce2) ((cs ++ [s1]) ++ cs2) Pj ∧ Pj.Ok ∧ layK (layL d) r.1 P.fl.length ns bh ex ((kids r.2).drop j) j Pj = FIN ∧
          P.fl.length + 1 ≤ Pj.fl.length ∧ Pj.fl.length + (((kids r.2).drop j).map (lsz d)).sum ≤ 3000 ∧ Pj.st.length + 1000 * (((kids r.2).drop j).map (lsz d)).sum + (1000 - j) ≤ 4000000 ∧ (Pj.en.getD P.fl.length []).length ≤ j ∧ (Pj.sd.getD P.fl.length []).length ≤ j ∧ ∀ c ∈ ce2 ++ cs2, H c = none)
        ⟨[], [], [], [], P5, _, _, _, _, rfl, Kp.refl _, by simpa using c6, ok5, hFIN, by omega, by rw [List.drop_zero]; omega, by rw [List.drop_zero]; omega, ?_, ?_, fun c hc => by cases hc⟩ (fun j σ' H' _ q => ?_) (fun j x σ' H7 H8 hj q y => ?_) (fun σ' H' q => ?_)
      · omega
      · omega
      · obtain ⟨_, _, _, _, _, _, _, _, _, _, kk, _⟩ := q
        exact SqL.of (kk _ _ hL (by rintro (z | z | z); exact cL z; exact Le z; exact Ls z))
      · obtain ⟨F2, pa2, ce2, cs2, Pj, y6, y7, y8, y9, rfl, kk, cj, okj, eqj, l1, lf, lt, le, lsd, nwj⟩ := q
        obtain ⟨T2, num2, lv, rfl, nT2, rfl, hnum2, hlv⟩ := y
        cases Option.some.inj hnum2
        have hlv : ls[j]? = some lv := hlv
        obtain ⟨l, hl, c', cs', rfl, hc, hcs⟩ := hls.other hlv
        obtain ⟨fl, sl2⟩ := sk l (List.mem_of_getElem? hl)
        rw [sum_drop _ hl] at lf lt
        have jlt : j < (kids r.2).length := (List.getElem?_eq_some_iff.mp hl).1
        have ed : (kids r.2).drop j = l :: (kids r.2).drop (j + 1) := by
          rw [List.drop_eq_getElem_cons jlt]
          congr 1
          rw [List.getElem?_eq_getElem jlt] at hl
          exact Option.some.inj hl
        rw [ed] at eqj
        have eqj : layK (layL d) r.1 P.fl.length ns bh ex ((kids r.2).drop (j + 1)) (j + 1) (layL d l (ns ++ [(j : Int)]) (endOf r.1 P.fl.length bh) (if r.1 = "loop" then bh else ex) (Pj.first r.1 P.fl.length (firstAt l (endOf r.1 P.fl.length bh) Pj))) = FIN := eqj
        have S8 : Same H7 (upd H7 T2 (.tup [.int (j : Nat), .ref c'])) := Same.new nT2
        refine ⟨T2, _, rfl, SqT.of upd_same, rfl, _, _, rfl, _, _, rfl, rfl, ?_⟩
        have kk8 := kk.trans (Kp.of (C := fun c => C6 a1 a2 a3 a4 a5 a6 c ∨ c = e1 ∨ c = s1) S8)
        have c8 := cj.same S8
        generalize upd H7 T2 (.tup [.int (j : Nat), .ref c']) = H9 at kk8 c8 ⊢
        have S09 := base (wide kk8)
        refine ⟨_, rfl, _, rfl, _, rfl, ?_⟩
        refine ⟨_, P.fl.length, bh, d, r, rfl, RowAt.mono S09 hra, ?_⟩
        generalize hE : endOf r.1 (P.fl.length : Int) bh = ev at eqj ⊢
        refine ⟨_, rfl, c', cs', rfl, .inl (SqL.of (S09 _ _ hc)), rfl, _, rfl, ?_⟩
        have lcs' : cs'.length = l.length := hcs.len.symm
        rw [lcs']
        have lFj : ((F ++ [V.ref b]) ++ F2).length = Pj.fl.length := c8.fl.len.symm
        have hx2 := okj.first r.1 P.fl.length (firstAt l ev Pj)
        have kx2 := PM.first_len (P := Pj) (w := r.1) (here := P.fl.length) (x := firstAt l ev Pj) (by rw [okj.e]; omega) (by rw [okj.s]; omega)
        have bnd := grew_layL d l sl2 (ns ++ [(j : Int)]) ev (if r.1 = "loop" then bh else ex) _ hx2.1
        have kpl := keeps_layL d l sl2 (ns ++ [(j : Int)]) ev (if r.1 = "loop" then bh else ex) _ hx2.1
        have c8e : ∃ e, ((ce ++ [e1]) ++ ce2)[P.fl.length]? = some e ∧ H9 e = some (.lst ((Pj.en.getD P.fl.length []).map V.int)) := c8.cell (by rw [okj.e]; omega)
        have c8s : ∃ e, ((cs ++ [s1]) ++ cs2)[P.fl.length]? = some e ∧ H9 e = some (.lst ((Pj.sd.getD P.fl.length []).map V.int)) := c8.cellS (by rw [okj.s]; omega)
        have ie : ((ce ++ [e1]) ++ ce2)[P.fl.length]? = some e1 := by rw [List.append_assoc, List.getElem?_append_right (by omega), lce]; simp
        have is : ((cs ++ [s1]) ++ cs2)[P.fl.length]? = some s1 := by rw [List.append_assoc, List.getElem?_append_right (by omega), lcs]; simp
        have he8 : H9 e1 = some (.lst ((Pj.en.getD P.fl.length []).map V.int)) := by obtain ⟨e, q1, q2⟩ := c8e; rw [ie] at q1; cases q1; exact q2
        have hs8 : H9 s1 = some (.lst ((Pj.sd.getD P.fl.length []).map V.int)) := by obtain ⟨e, q1, q2⟩ := c8s; rw [is] at q1; cases q1; exact q2
        have atE : atI (((ce ++ [e1]) ++ ce2).map V.ref) (P.fl.length : Int) = some (.ref e1) := atI_nat (by rw [List.getElem?_map, ie]; rfl)
        have atS : atI (((cs ++ [s1]) ++ cs2).map V.ref) (P.fl.length : Int) = some (.ref s1) := atI_nat (by rw [List.getElem?_map, is]; rfl)
        refine ite2 (fun h0 => ?_) (fun h0 => ?_)
        (have eX : V.int ev = V.int (firstAt l ev Pj) := by
          have z := V.int.inj (of_decide_eq_true h0)
          unfold firstAt
          rw [if_pos (by omega)]
         refine ⟨V.int (firstAt l ev Pj), by rw [← eX]; rfl, ?_⟩)
        rotate_left
        (have eX : (((F ++ [V.ref b]) ++ F2).length : Int) = firstAt l ev Pj := by
          have z : ¬ l.length = 0 := fun z => h0 (decide_eq_true (by rw [z]; rfl))
          unfold firstAt
          rw [if_neg z, lFj]
         refine ⟨_, rfl, p, _, dx, _, .ref a1, rfl, c8.pl.ob, T.c_Plan, T.n_Plan_flat, rfl, a1, _, rfl, .inl (SqL.of c8.pl.h1), ?_⟩
         rw [eX])
        rotate_left
        all_goals
          generalize firstAt l ev Pj = X at hx2 kx2 bnd kpl eqj ⊢
          -- entries[here]
          refine ⟨_, rfl, p, _, dx, _, .ref a4, rfl, c8.pl.ob, T.c_Plan, T.n_Plan_entries, rfl, _, rfl, a4, _, _, .ref e1, rfl, rfl, SqL.of c8.pl.h4, atE, .inl ⟨rfl, _, SqL.of he8⟩, _, rfl, e1, _, _, rfl, rfl, he8, by rw [List.length_map]; exact small1000 (by omega), ?_⟩
          have c9 := c8.entry ie he8 X
          have kk9 : Kp (fun c => C6 a1 a2 a3 a4 a5 a6 c ∨ c = e1 ∨ c = s1) H6 (upd H9 e1 (.lst ((Pj.en.getD P.fl.length []).map V.int ++ [.int X]))) := kk8.trans (Kp.put (C := fun c => C6 a1 a2 a3 a4 a5 a6 c ∨ c = e1 ∨ c = s1) (.inr (.inl rfl)))
          have hs9 : upd H9 e1 (.lst ((Pj.en.getD P.fl.length []).map V.int ++ [.int X])) s1 = some (.lst ((Pj.sd.getD P.fl.length []).map V.int)) := by rw [upd_ne es1.symm]; exact hs8
          generalize upd H9 e1 (.lst ((Pj.en.getD P.fl.length []).map V.int ++ [.int X])) = H10 at c9 kk9 hs9 ⊢
          refine ⟨_, rfl, b, _, _, .str r.1, rfl, rfl, sameT (base (wide kk9)) hb, at0, rfl, _, rfl, ?_⟩
          refine ite2 (fun hw2 => ?_) (fun hw2 => ?_)
          (have isB : r.1 = "both" := of_decide_eq_true ((strq _ _).symm.trans hw2)
           refine ⟨_, rfl, p, _, dx, _, .ref a5, rfl, c9.pl.ob, T.c_Plan, T.n_Plan_sides, rfl, _, rfl, a5, _, _, .ref s1, rfl, rfl, SqL.of c9.pl.h5, atS, .inl ⟨rfl, _, SqL.of hs9⟩, _, rfl, p, _, dx, _, .ref a6, rfl, c9.pl.ob, T.c_Plan, T.n_Plan_starts, rfl, a6, _, rfl, .inl (SqL.of c9.pl.h6), s1, _, _, rfl, rfl, hs9, by rw [List.length_map]; exact small1000 (by omega), ?_⟩
           have st0 : (Pj.entry P.fl.length X).st = Pj.st := rfl
           have pl10 := c9.pl.other (o := .lst ((Pj.sd.getD P.fl.length []).map V.int ++ [.int (((Pj.entry P.fl.length X).st.map V.int).length : Nat)])) cs1 ps1.symm
           refine ⟨_, rfl, p, _, dx, _, .ref a6, rfl, pl10.ob, T.c_Plan, T.n_Plan_starts, rfl, .inl ⟨rfl, _, SqL.of pl10.h6⟩, _, rfl, a6, _, _, rfl, rfl, pl10.h6, by rw [List.length_map, st0, sizeLine_eq]; omega, ?_⟩
           have cn := c9.side is hs9 X
           rw [← List.length_map (f := V.int)] at cn
           have cn : PAtx K H0 (upd (upd H10 s1 (.lst ((Pj.sd.getD P.fl.length []).map V.int ++ [.int (((Pj.entry P.fl.length X).st.map V.int).length : Nat)]))) a6 (.lst ((Pj.entry P.fl.length X).st.map V.int ++ [.int X]))) p dx a1 a2 a3 a4 a5 a6 ((F ++ [V.ref b]) ++ F2) ((pa ++ [tp]) ++ pa2) ((ce ++ [e1]) ++ ce2) ((cs ++ [s1]) ++ cs2) ((Pj.entry P.fl.length X).side P.fl.length X) := cn
           have eP : (Pj.entry P.fl.length X).side P.fl.length X = Pj.first r.1 P.fl.length X := by unfold PM.first; rw [if_pos isB]
           rw [eP] at cn
           have kkn : Kp (fun c => C6 a1 a2 a3 a4 a5 a6 c ∨ c = e1 ∨ c = s1) H6 (upd (upd H10 s1 (.lst ((Pj.sd.getD P.fl.length []).map V.int ++ [.int (((Pj.entry P.fl.length X).st.map V.int).length : Nat)]))) a6 (.lst ((Pj.entry P.fl.length X).st.map V.int ++ [.int X]))) := (kk9.trans (Kp.put (C := fun c => C6 a1 a2 a3 a4 a5 a6 c ∨ c = e1 ∨ c = s1) (.inr (.inr rfl)))).trans (Kp.put (C := fun c => C6 a1 a2 a3 a4 a5 a6 c ∨ c = e1 ∨ c = s1) (.inl (.inr (.inr (.inr (.inr (.inr rfl)))))))
           generalize upd (upd H10 s1 (.lst ((Pj.sd.getD P.fl.length []).map V.int ++ [.int (((Pj.entry P.fl.length X).st.map V.int).length : Nat)]))) a6 (.lst ((Pj.entry P.fl.length X).st.map V.int ++ [.int X])) = Hn at cn kkn ⊢)
          rotate_left
          (have cn := c9
           have noB : ¬ r.1 = "both" := fun z => hw2 ((strq _ _).trans (decide_eq_true z))
           have eP : Pj.entry P.fl.length X = Pj.first r.1 P.fl.length X := by unfold PM.first; rw [if_neg noB]
           rw [eP] at cn
           have kkn := kk9)
          rotate_left
          all_goals
            generalize Pj.first r.1 P.fl.length X = Pn at cn hx2 kx2 bnd kpl eqj
            have Sn := base (wide kkn)
            have htpn := (wide kkn) _ _ htp tpC
            refine ⟨_, rfl, p, dx, _, rfl, cn.pl.ob, rfl, _, rfl, _, rfl, _, rfl, by show 1 ≤ sizeLine; decide, fun t3 n3 => ?_⟩
            refine cat_path (SqT.of (Same.new n3 _ _ htpn)) upd_same (by rw [List.length_map]; omega) (fun H12 tq S12 htq hnew => ?_)
            have eq2 : ns.map V.int ++ [V.int (j : Nat)] = (ns ++ [(j : Int)]).map V.int := by simp
            rw [eq2] at hnew
            have St := (Same.new (o := .tup [.int (j : Nat)]) n3).trans S12
            have cq := cn.same St
            have kkq := kkn.trans (Kp.of (C := fun c => C6 a1 a2 a3 a4 a5 a6 c ∨ c = e1 ∨ c = s1) St)
            refine ⟨_, rfl, _, rfl, b, _, _, .str r.1, rfl, rfl, sameT (Sn.trans St) hb, at0, rfl, _, rfl, ?_⟩
            refine ite2 (fun hw3 => ⟨_, rfl, ?_⟩) (fun hw3 => ⟨_, rfl, ?_⟩)
            (have eL : (if r.1 = "loop" then bh else ex) = bh := if_pos (of_decide_eq_true ((strq _ _).symm.trans hw3))
             rw [eL] at bnd kpl eqj)
            rotate_left
            (have eL : (if r.1 = "loop" then bh else ex) = ex := if_neg fun z => hw3 ((strq _ _).trans (decide_eq_true z))
             rw [eL] at bnd kpl eqj)
            rotate_left
            all_goals
              refine ⟨p, c', tq, ev, _, H0, l, cs', dx, a1, a2, a3, a4, a5, a6, _, _, _, _, Pn, ns ++ [(j : Int)], rfl, cq, ⟨hx2.1, by rw [hx2.2.1]; omega, by omega⟩, hc, hcs, Sn.trans St, sep, sl2, hnew.1, by rw [List.length_append, List.length_singleton]; omega, fun H13 laid => ?_⟩
              obtain ⟨k13, F3, pa3, ce3, cs3, c13, nw3⟩ := laid
              have nw4 : ∀ x ∈ ce3 ++ cs3, H x = none := fun x hx => by
                have n12 := nw3 x hx
                cases q : H x with
                | none => rfl
                | some o =>
                  have := (wide kkq) x o q (cq.pl.new n12)
                  rw [n12] at this
                  cases this
              have kp1 := kpl P.fl.length (by rw [hx2.2.1]; omega)
              have fl3 := congrArg List.length bnd.f
              rw [List.length_append, flatL_len, hx2.2.1] at fl3
              have t2 := bnd.t2
              refine ⟨F2 ++ F3, pa2 ++ pa3, ce2 ++ ce3, cs2 ++ cs3, _, _, _, _, _, rfl, kkq.trans (k13.mono fun z hz => .inl hz), by simpa [List.append_assoc] using c13, bnd.ok, eqj, by omega, by omega, by omega, by rw [kp1.1]; omega, by rw [kp1.2]; omega, new_app nwj nw4⟩
      · obtain ⟨F2, pa2, ce2, cs2, Pj, y6, y7, y8, y9, rfl, kk, cj, okj, eqj, l1, lf, lt, le, lsd, nwj⟩ := q
        have en : (kids r.2).drop ls.length = [] := List.drop_eq_nil_of_le (by rw [hls.len]; exact Nat.le_refl _)
        rw [en] at eqj
        have eqj : Pj = FIN := eqj
        subst eqj
        refine k H' ⟨wide kk, V.ref b :: F2, tp :: pa2, e1 :: ce2, s1 :: cs2, by simpa [List.append_assoc] using cj, fun x hx => ?_⟩
        rcases List.mem_append.mp hx with h | h <;> rcases List.mem_cons.mp h with h | h
        · rw [h]; exact He1
        · exact nwj x (List.mem_append_left _ h)
        · rw [h]; exact Hs1
        · exact nwj x (List.mem_append_right _ h)
end
end OR

set_option Elab.async false
set_option maxRecDepth 100000
set_option maxHeartbeats 8000000
set_option linter.all false
namespace OR
open PySem PySem.Spec PyProof.Rows L2 TS2
section
variable {P : Program} {w : World} {K : PySem.W.Frag} {mg : Str → Option Value} {base : Heap}
theorem ok_lay_list {k0 k1 d : Nat} {f : Addr} {fd : FuncData} (F0 : FnP K "lay_list" "Plan.lay_list" s_Plan_lay_list f fd) (T0 : Tx w K mg) (h1 : k1 ≤ k0) (G_size_of : Def P w K mg base CX0 k1 "size_of" p_size_of (spSize K (d + 1)))
    (M_lay_row : MDef P w K mg base CX0 k0 (He.ga K "Plan") "lay_row" p_Plan_lay_row (spLayRow K d)) : FnOk P w K mg base CX0 (k0 + 1) f fd p_Plan_lay_list (spLayList K (d + 1)) := by
  have T := T0
  refine F0.ok sc_Plan_lay_list (fun vs H Q E h => ?_) (fun cdv A outer s H vs Q E hr h => ?_)
  · obtain ⟨p, ra, tp, e, ex, _, _, _, _, _, _, _, _, _, _, _, _, _, _, _, _, rfl, _⟩ := h
    rfl
  · obtain ⟨p, ra, tp, e, ex, H0, rows, xs, dx, a1, a2, a3, a4, a5, a6, F, pa, ce, cs, P, ns, rfl, c, ⟨ok, lF, lT⟩, hra, hp, S0, sep, sh, htp, fewp, k⟩ := h
    have base : ∀ {H' : Hp}, Kp (C6 a1 a2 a3 a4 a5 a6) H H' → Same H0 H' := fun k => Kp.base S0 k sep
    have tpC : ¬ C6 a1 a2 a3 a4 a5 a6 tp := c.pl.noTup htp
    have lx : xs.length = rows.length := hp.len.symm
    refine ⟨_, PSs.nox (pss_one (ps_for PassesOwn.never rfl (pi_enum (by rfl) T.b_enumerate (pa_cons (pv 1) pa_nil)) (pg_tup (by rfl) (pgs_cons (pg_name (i := 5) sc_Plan_lay_list.nd rfl (.inl rfl)) (pgs_cons (pg_name (i := 6) sc_Plan_lay_list.nd rfl (.inl rfl)) pgs_nil))) (pss_cons (ps_set (i := 7) sc_Plan_lay_list.nd rfl (.inl rfl) (pv 3))
      (pss_cons (ps_if (pt_cmpR op_lt (pe_op op_add (pv 5) pe_int) (pe_callB call_len_seq (by rfl) T.b_len PySem.boot_len (pa_cons (pv 1) pa_nil)) (nomark _)) (pss_one (ps_set (i := 7) sc_Plan_lay_list.nd rfl (.inl rfl) (pe_op op_add (pe_callB call_len_seq (by rfl) T.b_len PySem.boot_len (pa_cons (pe_fld (pv 0) rfl) pa_nil)) (pe_fn G_size_of (hr.mono (by omega)) (by rfl) pass0 (pa_cons (pv 6) pa_nil))))) pss_nil)
      (pss_one (ps_expr (pe_mth M_lay_row (hr.mono (by omega)) pass0 (pv 0) (pa_cons (pv 6) (pa_cons (pe_op op_catA (pv 2) (pe_tup (pa_cons (pv 5) pa_nil))) (pa_cons (pv 7) (pa_cons (pv 4) pa_nil))))))))))), ?_⟩
    refine ⟨_, rfl, ra, _, rfl, SqL.of (S0 _ _ hra), ?_⟩
    generalize hFIN : layL d rows ns e ex P = FIN at k
    refine for_it (walk_enum (K := K) (a := ra) (xs := xs)) (fun i σ' H' => ∃ (F2 : List V) (pa2 ce2 cs2 : List Addr) (Pi : PM) (y5 y6 y7 : Option V), σ' = [some (.ref p), some (.ref ra), some (.ref tp), some (.int e), some (.int ex), y5, y6, y7] ∧
        Kp (C6 a1 a2 a3 a4 a5 a6) H H' ∧ PAtx K H0 H' p dx a1 a2 a3 a4 a5 a6 (F ++ F2) (pa ++ pa2) (ce ++ ce2) (cs ++ cs2) Pi ∧ Pi.Ok ∧ layS (layR d) (rsz d) rows.length ns e ex (rows.drop i) i Pi = FIN ∧
        Pi.fl.length + ((rows.drop i).map (rsz d)).sum ≤ 3000 ∧ Pi.st.length + 1000 * ((rows.drop i).map (rsz d)).sum ≤ 4000000 ∧ ∀ c ∈ ce2 ++ cs2, H c = none)
      ⟨[], [], [], [], P, _, _, _, rfl, Kp.refl _, by simpa using c, ok, hFIN, by rw [List.drop_zero]; exact lF, by rw [List.drop_zero]; exact lT, fun c hc => by cases hc⟩ (fun i σ' H' _ q => ?_) (fun i x σ' H7 H8 hi q y => ?_) (fun σ' H' q => ?_)
    · obtain ⟨_, _, _, _, _, _, _, _, _, kp, _⟩ := q
      exact SqL.of (base kp _ _ hra)
    · obtain ⟨F2, pa2, ce2, cs2, Pi, y5, y6, y7, rfl, kp, ci, oki, eqi, lf, lt, nwi⟩ := q
      obtain ⟨T2, num2, rv, rfl, nT2, rfl, hnum2, hrv⟩ := y
      cases Option.some.inj hnum2
      have hrv : xs[i]? = some rv := hrv
      obtain ⟨row, hrow, hrow2⟩ := hp.other hrv
      have shr := sh row (List.mem_of_getElem? hrow)
      rw [sum_drop _ hrow] at lf lt
      have ilt : i < rows.length := (List.getElem?_eq_some_iff.mp hrow).1
      have ed : rows.drop i = row :: rows.drop (i + 1) := by
        rw [List.drop_eq_getElem_cons ilt]
        congr 1
        rw [List.getElem?_eq_getElem ilt] at hrow
        exact Option.some.inj hrow
      rw [ed] at eqi
      have eqi : layS (layR d) (rsz d) rows.length ns e ex (rows.drop (i + 1)) (i + 1) (layR d row (ns ++ [(i : Int)]) (if i + 1 < rows.length then ((Pi.fl.length + rsz d row : Nat) : Int) else e) ex Pi) = FIN := eqi
      have S8 : Same H7 (upd H7 T2 (.tup [.int (i : Nat), rv])) := Same.new nT2
      refine ⟨T2, _, rfl, SqT.of upd_same, rfl, _, _, rfl, _, _, rfl, rfl, ?_⟩
      have kp8 := kp.trans (Kp.of (C := C6 a1 a2 a3 a4 a5 a6) S8)
      have c8 := ci.same S8
      generalize upd H7 T2 (.tup [.int (i : Nat), rv]) = H9 at kp8 c8 ⊢
      cases d with
      | zero => exact nomatch row
      | succ g =>
        have lFF : (F ++ F2).length = Pi.fl.length := c8.fl.len.symm
        refine ⟨_, rfl, ?_⟩
        refine ⟨_, rfl, _, _, rfl, rfl, _, rfl, ra, xs, rfl, .inl (SqL.of (base kp8 _ _ hra)), _, _, rfl, rfl, _, rfl, ?_⟩
        rw [lx]
        refine ite2 (fun hb => ?_) (fun hb => ?_)
        (have hlt : i + 1 < rows.length := by have := of_decide_eq_true hb; omega
         rw [if_pos hlt] at eqi
         have bnd := grew_layR (g + 1) row shr (ns ++ [(i : Int)]) ((Pi.fl.length + rsz (g + 1) row : Nat) : Int) ex Pi oki
         refine ⟨_, rfl, p, _, dx, _, .ref a1, rfl, c8.pl.ob, T.c_Plan, T.n_Plan_flat, rfl, a1, _, rfl, .inl (SqL.of c8.pl.h1), ?_⟩
         refine ⟨_, rfl, rv, H0, row, rfl, base kp8, hrow2, shr, by omega, fun H10 S10 => ?_⟩
         refine ⟨_, _, rfl, rfl, ?_⟩
         rw [lFF]
         have kpn := kp8.trans (Kp.of (C := C6 a1 a2 a3 a4 a5 a6) S10)
         have cn := c8.same S10
         have hP := cn.pl.ob
         have e9 : ((Pi.fl.length : Int) + (rsz (g + 1) row : Nat)) = ((Pi.fl.length + rsz (g + 1) row : Nat) : Int) := by rw [Int.natCast_add]
         dsimp only [gName]
         rw [e9])
        rotate_left
        (have hlt : ¬ i + 1 < rows.length := fun z => hb (decide_eq_true (by omega))
         rw [if_neg hlt] at eqi
         have bnd := grew_layR (g + 1) row shr (ns ++ [(i : Int)]) e ex Pi oki
         have kpn := kp8
         have cn := c8)
        rotate_left
        all_goals
          have htpn := kpn _ _ htp tpC
          refine ⟨_, rfl, p, dx, _, rfl, cn.pl.ob, rfl, _, rfl, _, rfl, _, rfl, by show 1 ≤ sizeLine; decide, fun t3 n3 => ?_⟩
          refine cat_path (SqT.of (Same.new n3 _ _ htpn)) upd_same (by rw [List.length_map]; omega) (fun H12 tq S12 htq hnew => ?_)
          have eq2 : ns.map V.int ++ [V.int (i : Nat)] = (ns ++ [(i : Int)]).map V.int := by simp
          rw [eq2] at hnew
          have St := (Same.new (o := .tup [.int (i : Nat)]) n3).trans S12
          have cq := cn.same St
          have kpq := kpn.trans (Kp.of (C := C6 a1 a2 a3 a4 a5 a6) St)
          refine ⟨_, rfl, _, rfl, ?_⟩
          refine ⟨p, tq, rv, _, _, H0, row, dx, a1, a2, a3, a4, a5, a6, _, _, _, _, Pi, ns ++ [(i : Int)], rfl, cq, ⟨oki, by omega, by omega⟩, hrow2, base kpq, sep, shr, hnew.1, by rw [List.length_append, List.length_singleton]; omega, fun H13 laid => ?_⟩
          obtain ⟨k13, F3, pa3, ce3, cs3, c13, nw3⟩ := laid
          have nw4 : ∀ x ∈ ce3 ++ cs3, H x = none := fun x hx => by
            have n12 := nw3 x hx
            cases q : H x with
            | none => rfl
            | some o =>
              have := kpq x o q (cq.pl.new n12)
              rw [n12] at this
              cases this
          have fl3 := congrArg List.length bnd.f
          rw [List.length_append, flat_len] at fl3
          have t2 := bnd.t2
          refine ⟨F2 ++ F3, pa2 ++ pa3, ce2 ++ ce3, cs2 ++ cs3, _, _, _, _, rfl, kpq.trans k13, by simpa [List.append_assoc] using c13, bnd.ok, eqi, by omega, by omega, new_app nwi nw4⟩
    · obtain ⟨F2, pa2, ce2, cs2, Pi, y5, y6, y7, rfl, kp, ci, oki, eqi, lf, lt, nwi⟩ := q
      have en : rows.drop xs.length = [] := List.drop_eq_nil_of_le (by omega)
      rw [en] at eqi
      have eqi : Pi = FIN := eqi
      subst eqi
      exact k H' ⟨kp, F2, pa2, ce2, cs2, ci, nwi⟩
end
end OR

set_option Elab.async false
set_option maxRecDepth 100000
set_option maxHeartbeats 8000000
set_option linter.all false
namespace OR
open PySem PySem.Spec PyProof.Rows L2 TS2
def Sv (H H' : Hp) (p : Addr) : Prop := ∀ b o, H b = some o → b ≠ p → H' b = some o
theorem Sv.same {H H' H'' : Hp} {p : Addr} (h : Sv H H' p) (s : Same H' H'') : Sv H H'' p := fun b o hb nb => s _ _ (h b o hb nb)
theorem Sv.own {H H' : Hp} {p : Addr} {u : HO} (h : Sv H H' p) : Sv H (upd H' p u) p := fun b o hb nb => by rw [upd_ne nb]; exact h b o hb nb
theorem Sv.trans {H H' H'' : Hp} {p : Addr} (h : Sv H H' p) (s : Sv H' H'' p) : Sv H H'' p := fun b o hb nb => s _ _ (h b o hb nb) nb
def numStep (acc : List (List Key × V)) (x : List Int × Nat) : List (List Key × V) := putK acc (x.1.map Sum.inl) (.int (x.2 : Nat))
/-- the numbers of the paths -/
def numsOf (pl : List (List Int)) : List (List Key × V) := (pl.zipIdx).foldl numStep []
theorem nums_len (l : List (List Int × Nat)) : ∀ acc, (l.foldl numStep acc).length ≤ acc.length + l.length := by
  induction l with
  | nil => intro acc; simp
  | cons x l ih =>
    intro acc
    have h1 := ih (numStep acc x)
    have h2 := length_putK acc (x.1.map Sum.inl : List Key) (V.int (x.2 : Nat))
    rw [List.foldl_cons, List.length_cons]
    unfold numStep at h1 ⊢
    omega
def planF7 (a1 a2 a3 a4 a5 a6 a7 : Addr) : List (Str × V) := planF a1 a2 a3 a4 a5 a6 ++ [(("numbers" : Str), V.ref a7)]
/-- a plan stands at p -/
structure PlanAt (K : PySem.W.Frag) (H0 H : Hp) (p dx a1 a2 a3 a4 a5 a6 a7 : Addr) (F : List V) (pa ce cs : List Addr) (P : PM) : Prop where
  ob : H p = some (.ins (He.ga K "Plan") dx (planF7 a1 a2 a3 a4 a5 a6 a7))
  h1 : H a1 = some (.lst F)
  h2 : H a2 = some (.lst (pa.map V.ref))
  h3 : H a3 = some (.lst (P.bh.map V.int))
  h4 : H a4 = some (.lst (ce.map V.ref))
  h5 : H a5 = some (.lst (cs.map V.ref))
  h6 : H a6 = some (.lst (P.st.map V.int))
  h7 : H a7 = some (.dT (numsOf P.pl))
  fl : All2 (AnyAt K H0) P.fl F
  pt : PathsAt H P.pl pa
  en : CellsAt H P.en ce
  sd : CellsAt H P.sd cs
def PlanOk (K : PySem.W.Frag) (H0 H : Hp) (p dx : Addr) (P : PM) : Prop := ∃ a1 a2 a3 a4 a5 a6 a7 F pa ce cs, PlanAt K H0 H p dx a1 a2 a3 a4 a5 a6 a7 F pa ce cs P
theorem PlanAt.same {K : PySem.W.Frag} {H0 H H' : Hp} {p dx a1 a2 a3 a4 a5 a6 a7 : Addr} {F : List V} {pa ce cs : List Addr} {P : PM} (c : PlanAt K H0 H p dx a1 a2 a3 a4 a5 a6 a7 F pa ce cs P) (s : Same H H') : PlanAt K H0 H' p dx a1 a2 a3 a4 a5 a6 a7 F pa ce cs P :=
  ⟨s _ _ c.ob, s _ _ c.h1, s _ _ c.h2, s _ _ c.h3, s _ _ c.h4, s _ _ c.h5, s _ _ c.h6, s _ _ c.h7, c.fl, c.pt.imp fun _ _ _ e => s _ _ e, c.en.imp fun _ _ _ e => s _ _ e, c.sd.imp fun _ _ _ e => s _ _ e⟩
theorem PlanOk.same {K : PySem.W.Frag} {H0 H H' : Hp} {p dx : Addr} {P : PM} (c : PlanOk K H0 H p dx P) (s : Same H H') : PlanOk K H0 H' p dx P := by
  obtain ⟨a1, a2, a3, a4, a5, a6, a7, F, pa, ce, cs, c⟩ := c
  exact ⟨a1, a2, a3, a4, a5, a6, a7, F, pa, ce, cs, c.same s⟩
/-- what is new, the tuples, and p -/
def Own (H : Hp) (p b : Addr) : Prop := NL H b ∨ b = p
def planOf (d : Nat) (rows : List (Row d)) : PM := layL d rows [] (-2) (-2) ⟨[], [], [], [], [], [if rows.length = 0 then -2 else 0]⟩
def spPlanInit (K : PySem.W.Frag) (d : Nat) : Sp := fun vs H Q _ => ∃ (p dx ra : Addr) (H0 : Hp) (rows : List (Row d)) (xs : List V), vs = [.ref p, .ref ra] ∧ H p = some (.ins (He.ga K "Plan") dx []) ∧ H0 p = none ∧ H0 ra = some (.lst xs) ∧ All2 (RowAt K H0 d) rows xs ∧ Same H0 H ∧ (∀ r ∈ rows, Shape d r) ∧ d ≤ 40 ∧ lsz d rows ≤ 3000 ∧
  ∀ (H' : Hp), Sv H H' p → PlanOk K H0 (res (Own H p) H') p dx (planOf d rows) → Q .non H'
section
variable {P : Program} {w : World} {K : PySem.W.Frag} {mg : Str → Option Value} {base : Heap}
theorem ok_plan {k0 d : Nat} {f : Addr} {fd : FuncData} (F0 : FnP K "__init__" "Plan.__init__" s_Plan___init__ f fd) (T0 : Tx w K mg) (M_lay_list : MDef P w K mg base CX0 k0 (He.ga K "Plan") "lay_list" p_Plan_lay_list (spLayList K (d + 1))) :
    FnOk P w K mg base CX0 (k0 + 1) f fd p_Plan___init__ (spPlanInit K d) := by
  have T := T0
  refine F0.ok sc_Plan___init__ (fun vs H Q E h => ?_) (fun cdv A outer s H vs Q E hr h => ?_)
  · obtain ⟨p, dx, ra, _, _, _, rfl, _⟩ := h
    rfl
  · obtain ⟨p, dx, ra, H0, rows, xs, rfl, hp, H0p, hra0, hal, S0, sh, fd, few, k⟩ := h
    have hu := hu_of hr
    obtain ⟨tF, mFINISH⟩ := T.m_FINISH
    have hra := S0 _ _ hra0
    have rp : ra ≠ p := ne_of hra hp (by intro z; cases z)
    refine ⟨_, PSs.nox (pss_cons (ps_fld (pv 0) (pe_lst pa_nil) rfl)
      (pss_cons (ps_fld (pv 0) (pe_lst pa_nil) rfl)
      (pss_cons (ps_fld (pv 0) (pe_lst pa_nil) rfl)
      (pss_cons (ps_fld (pv 0) (pe_lst pa_nil) rfl)
      (pss_cons (ps_fld (pv 0) (pe_lst pa_nil) rfl)
      (pss_cons (ps_fld (pv 0) (pe_lst (pa_cons (pe_ifExp (pt_cmpR op_eq (pe_callB call_len_seq (by rfl) T.b_len PySem.boot_len (pa_cons (pv 1) pa_nil)) pe_int (nomark _)) (pe_glob (by rfl) mFINISH (show RelV (.int (-2)) _ from ⟨_, rfl⟩)) pe_int) pa_nil)) rfl)
      (pss_cons (ps_expr (pe_mth M_lay_list (hr.mono (by omega)) pass0 (pv 0) (pa_cons (pv 1) (pa_cons (pe_tup pa_nil) (pa_cons (pe_glob (by rfl) mFINISH (show RelV (.int (-2)) _ from ⟨_, rfl⟩)) (pa_cons (pe_glob (by rfl) mFINISH (show RelV (.int (-2)) _ from ⟨_, rfl⟩)) pa_nil))))))
      (pss_one (ps_fld (pv 0) (pe_dcT hu (by rfl) sc_Plan___init__.nd (own := [("number", 2), ("path", 3)]) (g := (gTup K 2 (gCons (gName 2) (gCons (gName 3) gNil)))) (pi_enum (by rfl) T.b_enumerate (pa_cons (pe_fld (pv 0) rfl) pa_nil)) (blkOk_by (N := n_Plan___init__) (sc := defScope s_Plan___init__) (by decide +kernel)) (fun _ _ _ _ _ => (pg_tup (by rfl) (pgs_cons (pg_name (i := 2) sc_Plan___init__.nd rfl (.inl rfl)) (pgs_cons (pg_name (i := 3) sc_Plan___init__.nd rfl (.inl rfl)) pgs_nil)))) (fun _ _ _ _ _ => (pv 3)) (fun _ _ _ _ _ => (pv 2))) rfl))))))))), ?_⟩
    have sv0 : Sv H H p := fun b o hb _ => hb
    refine ⟨by show 0 ≤ sizeLine; decide, fun a1 n1 => ?_⟩
    have p1 : p ≠ a1 := ne_of_none hp n1
    refine ⟨_, rfl, p, _, dx, _, rfl, (by rw [upd_ne p1]; exact hp), T.c_Plan, T.n_Plan_flat, (by show 0 < 1000; decide), ?_⟩
    have sv1 : Sv H (upd (upd H a1 (.lst [])) p (.ins (He.ga K "Plan") dx (putF "flat" (.ref a1) ([])))) p := (sv0.same (Same.new n1)).own
    have st1 : Sv H (upd (upd H a1 (.lst [])) p (.ins (He.ga K "Plan") dx (putF "flat" (.ref a1) ([])))) p := Sv.own (fun b o hb _ => Same.new n1 b o hb)
    have L1 : upd (upd H a1 (.lst [])) p (.ins (He.ga K "Plan") dx (putF "flat" (.ref a1) ([]))) a1 = some (.lst []) := by rw [upd_ne p1.symm]; exact upd_same
    have hp1 : upd (upd H a1 (.lst [])) p (.ins (He.ga K "Plan") dx (putF "flat" (.ref a1) ([]))) p = some (.ins (He.ga K "Plan") dx (putF "flat" (.ref a1) ([]))) := upd_same
    generalize upd (upd H a1 (.lst [])) p (.ins (He.ga K "Plan") dx (putF "flat" (.ref a1) ([]))) = G1 at sv1 st1 L1 hp1 ⊢
    refine ⟨by show 0 ≤ sizeLine; decide, fun a2 n2 => ?_⟩
    have p2 : p ≠ a2 := ne_of_none hp1 n2
    refine ⟨_, rfl, p, _, dx, _, rfl, (by rw [upd_ne p2]; exact hp1), T.c_Plan, T.n_Plan_places, (by show 1 < 1000; decide), ?_⟩
    have sv2 : Sv H (upd (upd G1 a2 (.lst [])) p (.ins (He.ga K "Plan") dx (putF "places" (.ref a2) (putF "flat" (.ref a1) ([]))))) p := (sv1.same (Same.new n2)).own
    have st2 : Sv G1 (upd (upd G1 a2 (.lst [])) p (.ins (He.ga K "Plan") dx (putF "places" (.ref a2) (putF "flat" (.ref a1) ([]))))) p := Sv.own (fun b o hb _ => Same.new n2 b o hb)
    have L2 : upd (upd G1 a2 (.lst [])) p (.ins (He.ga K "Plan") dx (putF "places" (.ref a2) (putF "flat" (.ref a1) ([])))) a2 = some (.lst []) := by rw [upd_ne p2.symm]; exact upd_same
    have hp2 : upd (upd G1 a2 (.lst [])) p (.ins (He.ga K "Plan") dx (putF "places" (.ref a2) (putF "flat" (.ref a1) ([])))) p = some (.ins (He.ga K "Plan") dx (putF "places" (.ref a2) (putF "flat" (.ref a1) ([])))) := upd_same
    generalize upd (upd G1 a2 (.lst [])) p (.ins (He.ga K "Plan") dx (putF "places" (.ref a2) (putF "flat" (.ref a1) ([])))) = G2 at sv2 st2 L2 hp2 ⊢
    refine ⟨by show 0 ≤ sizeLine; decide, fun a3 n3 => ?_⟩
    have p3 : p ≠ a3 := ne_of_none hp2 n3
    refine ⟨_, rfl, p, _, dx, _, rfl, (by rw [upd_ne p3]; exact hp2), T.c_Plan, T.n_Plan_behind, (by show 2 < 1000; decide), ?_⟩
    have sv3 : Sv H (upd (upd G2 a3 (.lst [])) p (.ins (He.ga K "Plan") dx (putF "behind" (.ref a3) (putF "places" (.ref a2) (putF "flat" (.ref a1) ([])))))) p := (sv2.same (Same.new n3)).own
    have st3 : Sv G2 (upd (upd G2 a3 (.lst [])) p (.ins (He.ga K "Plan") dx (putF "behind" (.ref a3) (putF "places" (.ref a2) (putF "flat" (.ref a1) ([])))))) p := Sv.own (fun b o hb _ => Same.new n3 b o hb)
    have L3 : upd (upd G2 a3 (.lst [])) p (.ins (He.ga K "Plan") dx (putF "behind" (.ref a3) (putF "places" (.ref a2) (putF "flat" (.ref a1) ([]))))) a3 = some (.lst []) := by rw [upd_ne p3.symm]; exact upd_same
    have hp3 : upd (upd G2 a3 (.lst [])) p (.ins (He.ga K "Plan") dx (putF "behind" (.ref a3) (putF "places" (.ref a2) (putF "flat" (.ref a1) ([]))))) p = some (.ins (He.ga K "Plan") dx (putF "behind" (.ref a3) (putF "places" (.ref a2) (putF "flat" (.ref a1) ([]))))) := upd_same
    generalize upd (upd G2 a3 (.lst [])) p (.ins (He.ga K "Plan") dx (putF "behind" (.ref a3) (putF "places" (.ref a2) (putF "flat" (.ref a1) ([]))))) = G3 at sv3 st3 L3 hp3 ⊢
    refine ⟨by show 0 ≤ sizeLine; decide, fun a4 n4 => ?_⟩
    have p4 : p ≠ a4 := ne_of_none hp3 n4
    refine ⟨_, rfl, p, _, dx, _, rfl, (by rw [upd_ne p4]; exact hp3), T.c_Plan, T.n_Plan_entries, (by show 3 < 1000; decide), ?_⟩
    have sv4 : Sv H (upd (upd G3 a4 (.lst [])) p (.ins (He.ga K "Plan") dx (putF "entries" (.ref a4) (putF "behind" (.ref a3) (putF "places" (.ref a2) (putF "flat" (.ref a1) ([]))))))) p := (sv3.same (Same.new n4)).own
    have st4 : Sv G3 (upd (upd G3 a4 (.lst [])) p (.ins (He.ga K "Plan") dx (putF "entries" (.ref a4) (putF "behind" (.ref a3) (putF "places" (.ref a2) (putF "flat" (.ref a1) ([]))))))) p := Sv.own (fun b o hb _ => Same.new n4 b o hb)
    have L4 : upd (upd G3 a4 (.lst [])) p (.ins (He.ga K "Plan") dx (putF "entries" (.ref a4) (putF "behind" (.ref a3) (putF "places" (.ref a2) (putF "flat" (.ref a1) ([])))))) a4 = some (.lst []) := by rw [upd_ne p4.symm]; exact upd_same
    have hp4 : upd (upd G3 a4 (.lst [])) p (.ins (He.ga K "Plan") dx (putF "entries" (.ref a4) (putF "behind" (.ref a3) (putF "places" (.ref a2) (putF "flat" (.ref a1) ([])))))) p = some (.ins (He.ga K "Plan") dx (putF "entries" (.ref a4) (putF "behind" (.ref a3) (putF "places" (.ref a2) (putF "flat" (.ref a1) ([])))))) := upd_same
    generalize upd (upd G3 a4 (.lst [])) p (.ins (He.ga K "Plan") dx (putF "entries" (.ref a4) (putF "behind" (.ref a3) (putF "places" (.ref a2) (putF "flat" (.ref a1) ([])))))) = G4 at sv4 st4 L4 hp4 ⊢
    refine ⟨by show 0 ≤ sizeLine; decide, fun a5 n5 => ?_⟩
    have p5 : p ≠ a5 := ne_of_none hp4 n5
    refine ⟨_, rfl, p, _, dx, _, rfl, (by rw [upd_ne p5]; exact hp4), T.c_Plan, T.n_Plan_sides, (by show 4 < 1000; decide), ?_⟩
    have sv5 : Sv H (upd (upd G4 a5 (.lst [])) p (.ins (He.ga K "Plan") dx (putF "sides" (.ref a5) (putF "entries" (.ref a4) (putF "behind" (.ref a3) (putF "places" (.ref a2) (putF "flat" (.ref a1) ([])))))))) p := (sv4.same (Same.new n5)).own
    have st5 : Sv G4 (upd (upd G4 a5 (.lst [])) p (.ins (He.ga K "Plan") dx (putF "sides" (.ref a5) (putF "entries" (.ref a4) (putF "behind" (.ref a3) (putF "places" (.ref a2) (putF "flat" (.ref a1) ([])))))))) p := Sv.own (fun b o hb _ => Same.new n5 b o hb)
    have L5 : upd (upd G4 a5 (.lst [])) p (.ins (He.ga K "Plan") dx (putF "sides" (.ref a5) (putF "entries" (.ref a4) (putF "behind" (.ref a3) (putF "places" (.ref a2) (putF "flat" (.ref a1) ([]))))))) a5 = some (.lst []) := by rw [upd_ne p5.symm]; exact upd_same
    have hp5 : upd (upd G4 a5 (.lst [])) p (.ins (He.ga K "Plan") dx (putF "sides" (.ref a5) (putF "entries" (.ref a4) (putF "behind" (.ref a3) (putF "places" (.ref a2) (putF "flat" (.ref a1) ([]))))))) p = some (.ins (He.ga K "Plan") dx (putF "sides" (.ref a5) (putF "entries" (.ref a4) (putF "behind" (.ref a3) (putF "places" (.ref a2) (putF "flat" (.ref a1) ([]))))))) := upd_same
    generalize upd (upd G4 a5 (.lst [])) p (.ins (He.ga K "Plan") dx (putF "sides" (.ref a5) (putF "entries" (.ref a4) (putF "behind" (.ref a3) (putF "places" (.ref a2) (putF "flat" (.ref a1) ([]))))))) = G5 at sv5 st5 L5 hp5 ⊢
    have d12 : a1 ≠ a2 := ne_of_none L1 n2
    have d13 : a1 ≠ a3 := ne_of_none (st2 _ _ L1 p1.symm) n3
    have d23 : a2 ≠ a3 := ne_of_none L2 n3
    have d14 : a1 ≠ a4 := ne_of_none (st3 _ _ (st2 _ _ L1 p1.symm) p1.symm) n4
    have d24 : a2 ≠ a4 := ne_of_none (st3 _ _ L2 p2.symm) n4
    have d34 : a3 ≠ a4 := ne_of_none L3 n4
    have d15 : a1 ≠ a5 := ne_of_none (st4 _ _ (st3 _ _ (st2 _ _ L1 p1.symm) p1.symm) p1.symm) n5
    have d25 : a2 ≠ a5 := ne_of_none (st4 _ _ (st3 _ _ L2 p2.symm) p2.symm) n5
    have d35 : a3 ≠ a5 := ne_of_none (st4 _ _ L3 p3.symm) n5
    have d45 : a4 ≠ a5 := ne_of_none L4 n5
    refine ⟨_, rfl, ra, _, rfl, .inl (SqL.of (sv5 _ _ hra rp)), rfl, _, rfl, ?_⟩
    have lx : xs.length = rows.length := hal.len.symm
    rw [lx]
    refine ite2 (fun hb => ?_) (fun hb => ?_)
    all_goals
      refine ⟨by show 1 ≤ sizeLine; decide, fun a6 n6 => ?_⟩
      have p6 : p ≠ a6 := ne_of_none hp5 n6
      refine ⟨_, rfl, p, _, dx, _, rfl, (by rw [upd_ne p6]; exact hp5), T.c_Plan, T.n_Plan_starts, (by show 5 < 1000; decide), ?_⟩
      generalize eT : ([V.int _] : List V) = T6
      have eT6 : T6 = ([if rows.length = 0 then (-2 : Int) else 0]).map V.int := by
        rw [← eT]
        first
          | (have z : rows.length = 0 := by have := V.int.inj (of_decide_eq_true hb); omega
             rw [if_pos z]; rfl)
          | (have z : ¬ rows.length = 0 := fun z => hb (decide_eq_true (by rw [z]; rfl))
             rw [if_neg z]; rfl)
      have sv6 : Sv H (upd (upd G5 a6 (.lst T6)) p (.ins (He.ga K "Plan") dx (putF "starts" (.ref a6) (putF "sides" (.ref a5) (putF "entries" (.ref a4) (putF "behind" (.ref a3) (putF "places" (.ref a2) (putF "flat" (.ref a1) ([]))))))))) p := (sv5.same (Same.new n6)).own
      have st6 : Sv G5 (upd (upd G5 a6 (.lst T6)) p (.ins (He.ga K "Plan") dx (putF "starts" (.ref a6) (putF "sides" (.ref a5) (putF "entries" (.ref a4) (putF "behind" (.ref a3) (putF "places" (.ref a2) (putF "flat" (.ref a1) ([]))))))))) p := Sv.own (fun b o hb _ => Same.new n6 b o hb)
      have L6 : upd (upd G5 a6 (.lst T6)) p (.ins (He.ga K "Plan") dx (putF "starts" (.ref a6) (putF "sides" (.ref a5) (putF "entries" (.ref a4) (putF "behind" (.ref a3) (putF "places" (.ref a2) (putF "flat" (.ref a1) ([])))))))) a6 = some (.lst T6) := by rw [upd_ne p6.symm]; exact upd_same
      have hp6 : upd (upd G5 a6 (.lst T6)) p (.ins (He.ga K "Plan") dx (putF "starts" (.ref a6) (putF "sides" (.ref a5) (putF "entries" (.ref a4) (putF "behind" (.ref a3) (putF "places" (.ref a2) (putF "flat" (.ref a1) ([])))))))) p = some (.ins (He.ga K "Plan") dx (planF a1 a2 a3 a4 a5 a6)) := upd_same
      generalize upd (upd G5 a6 (.lst T6)) p (.ins (He.ga K "Plan") dx (putF "starts" (.ref a6) (putF "sides" (.ref a5) (putF "entries" (.ref a4) (putF "behind" (.ref a3) (putF "places" (.ref a2) (putF "flat" (.ref a1) ([])))))))) = G6 at sv6 st6 L6 hp6 ⊢
      have d16 : a1 ≠ a6 := ne_of_none (st5 _ _ (st4 _ _ (st3 _ _ (st2 _ _ L1 p1.symm) p1.symm) p1.symm) p1.symm) n6
      have d26 : a2 ≠ a6 := ne_of_none (st5 _ _ (st4 _ _ (st3 _ _ L2 p2.symm) p2.symm) p2.symm) n6
      have d36 : a3 ≠ a6 := ne_of_none (st5 _ _ (st4 _ _ L3 p3.symm) p3.symm) n6
      have d46 : a4 ≠ a6 := ne_of_none (st5 _ _ L4 p4.symm) n6
      have d56 : a5 ≠ a6 := ne_of_none L5 n6
      have pl : PL K G6 p dx a1 a2 a3 a4 a5 a6 [] [] [] [] [] T6 := ⟨hp6, st6 _ _ (st5 _ _ (st4 _ _ (st3 _ _ (st2 _ _ L1 p1.symm) p1.symm) p1.symm) p1.symm) p1.symm, st6 _ _ (st5 _ _ (st4 _ _ (st3 _ _ L2 p2.symm) p2.symm) p2.symm) p2.symm, st6 _ _ (st5 _ _ (st4 _ _ L3 p3.symm) p3.symm) p3.symm, st6 _ _ (st5 _ _ L4 p4.symm) p4.symm, st6 _ _ L5 p5.symm, L6, by simp [d12, d13, d14, d15, d16, d23, d24, d25, d26, d34, d35, d36, d45, d46, d56]⟩
      have free : ∀ {G : Hp} {a : Addr}, Sv H G p → G a = none → a ≠ p → H0 a = none := fun {G a} sv n np => by
        cases q : H0 a with
        | none => rfl
        | some o => rw [sv _ _ (S0 _ _ q) np] at n; cases n
      have sep : Sep H0 (C6 a1 a2 a3 a4 a5 a6) := by
        rintro c (rfl | rfl | rfl | rfl | rfl | rfl)
        · exact free sv0 n1 p1.symm
        · exact free sv1 n2 p2.symm
        · exact free sv2 n3 p3.symm
        · exact free sv3 n4 p4.symm
        · exact free sv4 n5 p5.symm
        · exact free sv5 n6 p6.symm
      have S06 : Same H0 G6 := fun b o e => sv6 b o (S0 b o e) (fun z => by rw [z, H0p] at e; cases e)
      refine ⟨_, rfl, p, dx, _, rfl, pl.ob, rfl, _, rfl, by show 0 ≤ sizeLine; decide, fun t nt => ?_⟩
      have St : Same G6 (upd G6 t (.tup [])) := Same.new nt
      have ht : upd G6 t (.tup []) t = some (.tup []) := upd_same
      generalize upd G6 t (.tup []) = G7 at St ht ⊢
      generalize hP0 : (⟨[], [], [], [], [], [if rows.length = 0 then (-2 : Int) else 0]⟩ : PM) = P0
      have st0 : P0.st = [if rows.length = 0 then (-2 : Int) else 0] := by rw [← hP0]
      have c0 : PAtx K H0 G6 p dx a1 a2 a3 a4 a5 a6 [] [] [] [] P0 := by
        refine ⟨?_, ?_, ?_, ?_, ?_, List.nodup_nil, fun c hc => by cases hc⟩
        · rw [st0, ← eT6, ← hP0]
          exact pl
        · rw [← hP0]; exact .nil
        · rw [← hP0]; exact .nil
        · rw [← hP0]; exact .nil
        · rw [← hP0]; exact .nil
      have ok0 : P0.Ok := by rw [← hP0]; exact ⟨rfl, rfl, rfl, rfl⟩
      have fl0 : P0.fl.length = 0 := by rw [← hP0]; rfl
      have sl0 : P0.st.length = 1 := by rw [st0]; rfl
      refine ⟨p, ra, t, -2, -2, H0, rows, xs, dx, a1, a2, a3, a4, a5, a6, [], [], [], [], P0, [], rfl, c0.same St, ⟨ok0, by omega, by omega⟩, hra0, hal, S06.trans St, sep, sh, ht, by show 0 + 2 * d ≤ 90; omega, fun G8 laid => ?_⟩
      obtain ⟨k8, F3, pa3, ce3, cs3, c8, nw8⟩ := laid
      have freeH : ∀ {G : Hp} {a : Addr}, Sv H G p → G a = none → a ≠ p → H a = none := fun {G a} sv n np => by
        cases q : H a with
        | none => rfl
        | some o => rw [sv _ _ q np] at n; cases n
      have bnd := grew_layL d rows sh [] (-2) (-2) P0 ok0
      have efin : layL d rows [] (-2) (-2) P0 = planOf d rows := by rw [← hP0]; rfl
      rw [efin] at c8 bnd
      have lfl : (planOf d rows).pl.length = lsz d rows := by rw [bnd.ok.p, bnd.f, List.length_append, flatL_len]; omega
      generalize planOf d rows = PP at c8 bnd lfl k
      simp only [List.nil_append] at c8
      have lpa := c8.pt.len
      refine ⟨_, rfl, p, _, dx, _, .ref a2, rfl, c8.pl.ob, T.c_Plan, T.n_Plan_places, rfl, a2, _, rfl, SqL.of c8.pl.h2, fun D nD => ?_⟩
      have a2D : a2 ≠ D := ne_of_none c8.pl.h2 nD
      have pD : p ≠ D := ne_of_none c8.pl.ob nD
      refine out_it (walk_enum (K := K) (a := a2) (xs := pa3.map V.ref)) (fun i H' => Kp (· = D) (upd G8 D (.dT [])) H' ∧ H' D = some (.dT ((PP.pl.zipIdx.take i).foldl numStep []))) ⟨Kp.refl _, upd_same⟩ (fun i H' _ q => SqL.of (q.1 _ _ (by rw [upd_ne a2D]; exact c8.pl.h2) a2D)) (fun i x H9 H10 hi q y => ?_) (fun H9 q => ?_)
      · obtain ⟨T2, num, pv2, rfl, nT2, rfl, hnum, hpv⟩ := y
        obtain ⟨kq, hD⟩ := q
        cases Option.some.inj hnum
        have hpv : (pa3.map V.ref)[i]? = some pv2 := hpv
        rw [List.getElem?_map] at hpv
        cases eb : pa3[i]? with
        | none => rw [eb] at hpv; cases hpv
        | some b =>
        rw [eb] at hpv
        cases Option.some.inj hpv
        obtain ⟨ns, hns, hb⟩ := c8.pt.other eb
        have hb9 : H9 b = some (.tup (ns.map V.int)) := kq _ _ (by rw [upd_ne (ne_of_none hb nD)]; exact hb) (ne_of_none hb nD)
        have ez : PP.pl.zipIdx[i]? = some (ns, i) := by rw [List.getElem?_zipIdx, hns]; simp
        have il : i < PP.pl.length := (List.getElem?_eq_some_iff.mp hns).1
        have nl := nums_len (PP.pl.zipIdx.take i) []
        rw [List.length_take, List.length_zipIdx] at nl
        refine ⟨T2, _, rfl, SqT.of upd_same, rfl, _, _, rfl, _, _, rfl, rfl, rfl, ?_⟩
        refine ⟨_, rfl, _, rfl, (PP.pl.zipIdx.take i).foldl numStep [], (ns.map Sum.inl : List Key), b, rfl, ?_, ?_, ?_, ?_⟩
        · rw [upd_ne (ne_of_none hb9 nT2), hb9, List.map_map]
          rfl
        · rw [upd_ne (ne_of_none hD nT2)]
          exact hD
        · refine Nat.lt_of_le_of_lt (m := 3000) ?_ (by decide)
          simp only [List.length_nil] at nl
          omega
        · refine ⟨fun b o e n => ?_, ?_⟩
          · rw [upd_ne n]
            exact Same.new nT2 _ _ (kq b o e n)
          · rw [upd_same, take_more ez, List.foldl_append]
            rfl
      · obtain ⟨kq, hD⟩ := q
        have S8 : Same G8 H9 := fun b o e => kq b o (by rw [upd_ne (ne_of_none e nD)]; exact e) (ne_of_none e nD)
        have hD : H9 D = some (.dT (numsOf PP.pl)) := by
          rw [hD]
          unfold numsOf
          rw [List.take_of_length_le (by rw [List.length_zipIdx, List.length_map]; omega)]
        refine ⟨_, rfl, p, _, dx, _, rfl, S8 _ _ c8.pl.ob, T.c_Plan, T.n_Plan_numbers, (by show 6 < 1000; decide), ?_⟩
        have c9 := c8.same S8
        have ne9 : ∀ {b : Addr} {o : HO}, H9 b = some o → b ≠ p → upd H9 p (.ins (He.ga K "Plan") dx (putF "numbers" (.ref D) (planF a1 a2 a3 a4 a5 a6))) b = some o := fun h n => by rw [upd_ne n]; exact h
        obtain ⟨np1, np2, np3, np4, np5, np6⟩ := c9.pl.np
        have sv7 : Sv H G7 p := sv6.same St
        have svF : ∀ b o, H b = some o → b ≠ p → H9 b = some o := fun b o e nb => by
          refine S8 _ _ (k8 b o (St b o (sv6 b o e nb)) ?_)
          have no : ∀ {G : Hp} {a : Addr}, Sv H G p → G a = none → b ≠ a := fun {G a} sv n z => by
            subst z
            rw [sv _ _ e nb] at n
            cases n
          rintro (z | z | z | z | z | z)
          · exact no sv0 n1 z
          · exact no sv1 n2 z
          · exact no sv2 n3 z
          · exact no sv3 n4 z
          · exact no sv4 n5 z
          · exact no sv5 n6 z
        have nwR : ∀ {b : Addr} {o : HO}, H b = none → H9 b = some o → b ≠ p → res (Own H p) (upd H9 p (.ins (He.ga K "Plan") dx (putF "numbers" (.ref D) (planF a1 a2 a3 a4 a5 a6)))) b = some o := fun n h np => by
          rw [res_of (S := Own H p) (.inl (NL.new n))]
          exact ne9 h np
        have cellR : ∀ {X : List (List Int)} {cc : List Addr}, CellsAt H9 X cc → (∀ x ∈ cc, H x = none) → CellsAt (res (Own H p) (upd H9 p (.ins (He.ga K "Plan") dx (putF "numbers" (.ref D) (planF a1 a2 a3 a4 a5 a6))))) X cc := fun {X cc} h n => by
          unfold CellsAt at h ⊢
          induction h with
          | nil => exact .nil
          | cons h t ih => exact .cons (nwR (n _ List.mem_cons_self) h (ne_of h c9.pl.ob (by intro z; cases z))) (ih fun x hx => n x (List.mem_cons_of_mem _ hx))
        have nw7 : ∀ x ∈ ce3 ++ cs3, H x = none := fun x hx => freeH sv7 (nw8 x hx) (fun z => by
          have n := nw8 x hx
          rw [z, (c0.same St).pl.ob] at n
          cases n)
        have fD : H D = none := by
          cases q : H D with
          | none => rfl
          | some o =>
            have hb := svF D o q (Ne.symm pD)
            exfalso
            have noC : ¬ C6 a1 a2 a3 a4 a5 a6 D := c8.pl.new nD
            rw [k8 _ _ (St _ _ (sv6 D o q (Ne.symm pD))) noC] at nD
            cases nD
        refine k _ (fun b o e nb => ?_) ⟨a1, a2, a3, a4, a5, a6, D, F3, pa3, ce3, cs3, ?_, nwR n1 c9.pl.h1 np1.symm, nwR (freeH sv1 n2 p2.symm) c9.pl.h2 np2.symm, nwR (freeH sv2 n3 p3.symm) c9.pl.h3 np3.symm, nwR (freeH sv3 n4 p4.symm) c9.pl.h4 np4.symm, nwR (freeH sv4 n5 p5.symm) c9.pl.h5 np5.symm, nwR (freeH sv5 n6 p6.symm) c9.pl.h6 np6.symm, nwR fD hD pD.symm, c9.fl, ?_, cellR c9.en fun x hx => nw7 x (List.mem_append_left _ hx), cellR c9.sd fun x hx => nw7 x (List.mem_append_right _ hx)⟩
        · rw [upd_ne nb]
          exact svF b o e nb
        · rw [res_of (S := Own H p) (.inr rfl)]
          exact upd_same
        · refine c9.pt.imp fun ns b _ e => ?_
          have bp : b ≠ p := ne_of e c9.pl.ob (by intro z; cases z)
          rw [res_of (S := Own H p) (.inl fun o q => by have := svF b o q bp; rw [e] at this; rw [← Option.some.inj this]; rfl)]
          exact ne9 e bp
end
end OR

set_option Elab.async false
set_option maxRecDepth 100000
set_option maxHeartbeats 8000000
set_option linter.all false
namespace OR
open PySem PySem.Spec PyProof.Rows L2 TS2
def namesAll (which : List Str) (fl : List AnyRow) : List Str := (fl.map fun x => named which (fsOf x.2.1) x.2.2).flatten
theorem namesAll_snoc (which : List Str) (fl : List AnyRow) (x : AnyRow) : namesAll which (fl ++ [x]) = namesAll which fl ++ named which (fsOf x.2.1) x.2.2 := by
  unfold namesAll
  rw [List.map_append, List.flatten_append]
  simp
theorem namesAll_take (which : List Str) (fl : List AnyRow) (i : Nat) : (namesAll which (fl.take i)).length ≤ (namesAll which fl).length := by
  unfold namesAll
  conv => rhs; rw [← List.take_append_drop i fl]
  rw [List.map_append, List.flatten_append, List.length_append]
  omega
theorem names_set {P : PySem.Program} {w : World} {K : PySem.W.Frag} {fa : Addr} {x1 x2 x3 x4 x5 x6 : Option V} {H H0 : Hp} {F : List V} {fl : List AnyRow} {n1 n2 : Str} {Q : VK} (hf : H fa = some (.lst F)) (hal : All2 (AnyAt K H0) fl F) (S0 : Same H0 H)
    (ok : ∀ x ∈ fl, (x.2.1, fsOf x.2.1) ∈ ftab ∧ KindsOk (fsOf x.2.1) x.2.2 ∧ (named [n1, n2] (fsOf x.2.1) x.2.2).length ≤ 1000) (nk : ∀ f ∈ [n1, n2], f ≠ "rows" ∧ f ≠ "sides") (few : (namesAll [n1, n2] fl).length ≤ 4000)
    (k : ∀ H' D, Same H H' → H D = none → H' D = some (TxO P w D (uniq (namesAll [n1, n2] fl))) → Q (.ref D) H') :
    tSc2 P w (iList K (tVar 0)) (gName 4) (iList K (tCall (spNamed K) [] E0 (tCons (tVar 4) (tCons (tTup (tCons (tC (.str n1)) (tCons (tC (.str n2)) tNil))) tNil)))) (gName 5) (tVar 5) [4, 5] [5] [some (.ref fa), x1, x2, x3, x4, x5, x6] H Q := by
  refine ⟨_, rfl, fa, rfl, ⟨_, SqL.of hf⟩, fun D nD => ?_⟩
  have fD : fa ≠ D := ne_of_none hf nD
  have keep : ∀ {H' : Hp}, Kp (· = D) (upd H D (TxO P w D [])) H' → Same H H' := fun k b o e => k b o (by rw [upd_ne (ne_of_none e nD)]; exact e) (ne_of_none e nD)
  refine out_it (walk_list (K := K) (a := fa) (xs := F)) (fun i H' => Kp (· = D) (upd H D (TxO P w D [])) H' ∧ H' D = some (TxO P w D (uniq (namesAll [n1, n2] (fl.take i))))) ⟨Kp.refl _, by rw [upd_same]; rfl⟩
    (fun i H' _ q => SqL.of (keep q.1 _ _ hf)) (fun i x H2 H3 hi q y => ?_) (fun H2 q => ?_)
  · obtain ⟨rfl, hx⟩ := y
    obtain ⟨kq, hD⟩ := q
    obtain ⟨a, ha, haa⟩ := hal.other hx
    obtain ⟨o1, o2, o3⟩ := ok a (List.mem_of_getElem? ha)
    have tl := namesAll_take [n1, n2] fl (i + 1)
    rw [take_more ha, namesAll_snoc, List.length_append] at tl
    refine ⟨rfl, ?_⟩
    refine ⟨_, rfl, by show 2 ≤ sizeLine; decide, fun t nt => ?_⟩
    have S1 : Same H3 (upd H3 t (.tup [.str n1, .str n2])) := Same.new nt
    have ht : upd H3 t (.tup [.str n1, .str n2]) t = some (.tup [.str n1, .str n2]) := upd_same
    generalize upd H3 t (.tup [.str n1, .str n2]) = H4 at S1 ht ⊢
    have SH4 := (keep kq).trans S1
    refine ⟨x, t, [n1, n2], H0, a.1, a.2, fsOf a.2.1, rfl, SqT.of ht, haa, S0.trans SH4, o1, o2, nk, o3, fun H5 L S5 nL hL => ?_⟩
    have hD5 := S5 _ _ (S1 _ _ hD)
    have LD : L ≠ D := fun z => by rw [z, S1 _ _ hD] at nL; cases nL
    refine ⟨L, rfl, ⟨_, SqL.of hL⟩, ?_⟩
    refine out_it (walk_list (K := K) (a := L) (xs := (named [n1, n2] (fsOf a.2.1) a.2.2).map V.str)) (fun j H' => Kp (· = D) H5 H' ∧ H' D = some (TxO P w D (uniq (namesAll [n1, n2] (fl.take i) ++ (named [n1, n2] (fsOf a.2.1) a.2.2).take j)))) ⟨Kp.refl _, by rw [hD5]; simp⟩
      (fun j H' _ q => SqL.of (q.1 _ _ hL LD)) (fun j x H6 H7 hj q y => ?_) (fun H6 q => ?_)
    · obtain ⟨rfl, hx2⟩ := y
      obtain ⟨kp, hD6⟩ := q
      rw [List.getElem?_map] at hx2
      cases ez : (named [n1, n2] (fsOf a.2.1) a.2.2)[j]? with
      | none => rw [ez] at hx2; cases hx2
      | some z =>
        rw [ez] at hx2
        cases Option.some.inj hx2
        refine ⟨rfl, ?_⟩
        refine ⟨_, rfl, z, _, rfl, hD6, ?_, fun b o e n => ?_, ?_⟩
        · have h1 := uniq_le (namesAll [n1, n2] (fl.take i) ++ (named [n1, n2] (fsOf a.2.1) a.2.2).take j)
          have h2 : ((named [n1, n2] (fsOf a.2.1) a.2.2).take j).length ≤ (named [n1, n2] (fsOf a.2.1) a.2.2).length := by rw [List.length_take]; omega
          rw [List.length_append] at h1
          have sb : scanBound = 4096 := rfl
          omega
        · rw [upd_ne n]
          exact kp b o e n
        · rw [upd_same, take_more ez, ← List.append_assoc, uniq_snoc]
    · obtain ⟨kp, hD6⟩ := q
      refine ⟨fun b o e n => kp b o (S5 _ _ (S1 _ _ (kq b o e n))) n, ?_⟩
      rw [hD6, take_more ha, namesAll_snoc, List.length_map, List.take_length]
  · obtain ⟨kq, hD⟩ := q
    rw [← hal.len, List.take_length] at hD
    exact k H2 D (keep kq) nD hD
def spNamedIn (K : PySem.W.Frag) : Sp := fun vs H Q _ => ∃ (fa : Addr) (F : List V) (H0 : Hp) (fl : List AnyRow), vs = [.ref fa] ∧ H fa = some (.lst F) ∧ All2 (AnyAt K H0) fl F ∧ Same H0 H ∧
  (∀ x ∈ fl, (x.2.1, fsOf x.2.1) ∈ ftab ∧ KindsOk (fsOf x.2.1) x.2.2 ∧ ∀ which, (named which (fsOf x.2.1) x.2.2).length ≤ 1000) ∧ (∀ which, (namesAll which fl).length ≤ 4000) ∧
  ∀ (H' : Hp) (d a b c : Addr) (ys zs gs : List Str), Same H H' → H' d = some (.dK [(.inr "labels", .ref a), (.inr "slots", .ref b), (.inr "gates", .ref c)]) → H d = none → H' a = some (.lst (ys.map V.str)) → H' b = some (.lst ((zs.filter fun z : Str => decide (z ≠ "in")).map V.str)) → H' c = some (.lst (gs.map V.str)) →
    ys.Perm (uniq (namesAll ["label", "labels"] fl)) → zs.Perm (uniq (namesAll ["slot", "source"] fl)) → gs.Perm (uniq (namesAll ["gate", "edit"] fl)) → (sortedS ys = true ∧ sortedS zs = true ∧ sortedS gs = true) → H a = none → H b = none → H c = none → Q (.ref d) H'
section
variable {P : Program} {w : World} {K : PySem.W.Frag} {mg : Str → Option Value} {base : Heap}
theorem ok_named_in {f : Addr} {fd : FuncData} (F0 : FnP K "named_in" "named_in" s_named_in f fd) (T : Tx w K mg) (G_words_named : Def P w K mg base CX0 1 "words_named" p_words_named (spNamed K)) : FnOk P w K mg base CX0 2 f fd p_named_in (spNamedIn K) := by
  refine F0.ok sc_named_in (fun vs H Q E h => ?_) (fun cdv A outer s H vs Q E hr h => ?_)
  · obtain ⟨fa, _, _, _, rfl, _⟩ := h
    rfl
  · obtain ⟨fa, F, H0, fl, rfl, hf, hal, S0, ok, few, k⟩ := h
    obtain ⟨t1, mINPUT_SLOT⟩ := T.m_INPUT_SLOT
    refine ⟨_, PSs.nox (pss_cons (ps_set (i := 1) sc_named_in.nd rfl (.inl rfl) (pe_callB (cr_sortedTx rfl) (by rfl) T.b_sorted (by decide +kernel) (pa_cons (pe_sc2 (own := [("row", 4), ("word", 5)]) (g := gName 4) (g1 := gName 5) (vs1 := [5]) (by rfl) sc_named_in.nd (pi_list (pv 0)) (blkOk_by (N := n_named_in) (sc := defScope s_named_in) (by decide +kernel)) (by decide) (fun _ _ _ _ _ => (pg_name (i := 4) sc_named_in.nd rfl (.inl rfl))) (fun _ _ _ _ _ => (show PI _ _ _ (iList K _) from pi_list (pe_fn G_words_named (hr.mono (by decide)) (by rfl) pass0 (pa_cons (pv 4) (pa_cons (pe_tup (pa_cons pe_str (pa_cons pe_str pa_nil))) pa_nil))))) (fun _ _ _ _ _ => (pg_name (i := 5) sc_named_in.nd rfl (.inl rfl))) (fun _ _ _ _ _ => (pv 5))) pa_nil)))
 (pss_cons (ps_set (i := 2) sc_named_in.nd rfl (.inl rfl) (pe_callB (cr_sortedTx rfl) (by rfl) T.b_sorted (by decide +kernel) (pa_cons (pe_sc2 (own := [("row", 4), ("word", 5)]) (g := gName 4) (g1 := gName 5) (vs1 := [5]) (by rfl) sc_named_in.nd (pi_list (pv 0)) (blkOk_by (N := n_named_in) (sc := defScope s_named_in) (by decide +kernel)) (by decide) (fun _ _ _ _ _ => (pg_name (i := 4) sc_named_in.nd rfl (.inl rfl))) (fun _ _ _ _ _ => (show PI _ _ _ (iList K _) from pi_list (pe_fn G_words_named (hr.mono (by decide)) (by rfl) pass0 (pa_cons (pv 4) (pa_cons (pe_tup (pa_cons pe_str (pa_cons pe_str pa_nil))) pa_nil))))) (fun _ _ _ _ _ => (pg_name (i := 5) sc_named_in.nd rfl (.inl rfl))) (fun _ _ _ _ _ => (pv 5))) pa_nil)))
 (pss_cons (ps_set (i := 3) sc_named_in.nd rfl (.inl rfl) (pe_callB (cr_sortedTx rfl) (by rfl) T.b_sorted (by decide +kernel) (pa_cons (pe_sc2 (own := [("row", 4), ("word", 5)]) (g := gName 4) (g1 := gName 5) (vs1 := [5]) (by rfl) sc_named_in.nd (pi_list (pv 0)) (blkOk_by (N := n_named_in) (sc := defScope s_named_in) (by decide +kernel)) (by decide) (fun _ _ _ _ _ => (pg_name (i := 4) sc_named_in.nd rfl (.inl rfl))) (fun _ _ _ _ _ => (show PI _ _ _ (iList K _) from pi_list (pe_fn G_words_named (hr.mono (by decide)) (by rfl) pass0 (pa_cons (pv 4) (pa_cons (pe_tup (pa_cons pe_str (pa_cons pe_str pa_nil))) pa_nil))))) (fun _ _ _ _ _ => (pg_name (i := 5) sc_named_in.nd rfl (.inl rfl))) (fun _ _ _ _ _ => (pv 5))) pa_nil)))
 (pss_one (ps_ret (pe_disp (pps_cons pe_str (pv 1) (pps_cons pe_str (pe_lc (own := [("slot", 6)]) (g := gName 6) (by rfl) sc_named_in.nd (pi_list (pv 2)) (blkOk_by (N := n_named_in) (sc := defScope s_named_in) (by decide +kernel)) (fun _ _ _ _ _ => (pg_name (i := 6) sc_named_in.nd rfl (.inl rfl))) (fun _ _ _ _ _ => (pts_one (pt_cmpR op_ne (pv 6) (pe_glob (by rfl) mINPUT_SLOT (show RelV (.str "in") _ from ⟨_, rfl⟩)) (nomark _)))) (fun _ _ _ _ _ => (pv 6))) (pps_cons pe_str (pv 3) pps_nil))) (by rfl) (by rfl) (fun z => by cases z) (by decide))))))), ?_⟩
    have sb : scanBound = 4096 := rfl
    have lq : ∀ which, (uniq (namesAll which fl)).length < scanBound := fun which => by have h1 := uniq_le (namesAll which fl); have h2 := few which; omega
    have okw : ∀ n1 n2 : Str, ∀ x ∈ fl, (x.2.1, fsOf x.2.1) ∈ ftab ∧ KindsOk (fsOf x.2.1) x.2.2 ∧ (named [n1, n2] (fsOf x.2.1) x.2.2).length ≤ 1000 := fun n1 n2 x hx => ⟨(ok x hx).1, (ok x hx).2.1, (ok x hx).2.2 _⟩
    dsimp only [tSeq, tAsg, tCB, tCons, gName]
    refine names_set (n1 := "label") (n2 := "labels") hf hal S0 (okw _ _) (by decide +kernel) (few _) (fun H1 D1 S1 n1 h1 => ?_)
    refine ⟨D1, _, rfl, h1, lq _, fun ys a pm1 so1 na => ?_⟩
    have S2 : Same H1 (upd H1 a (.lst (ys.map V.str))) := Same.new na
    have h2 : upd H1 a (.lst (ys.map V.str)) a = some (.lst (ys.map V.str)) := upd_same
    generalize upd H1 a (.lst (ys.map V.str)) = H2 at S2 h2 ⊢
    have SH2 := S1.trans S2
    dsimp only [tSeq, tAsg, tCB, tCons, gName]
    refine names_set (n1 := "slot") (n2 := "source") (SH2 _ _ hf) hal (S0.trans SH2) (okw _ _) (by decide +kernel) (few _) (fun H3 D3 S3 n3 h3 => ?_)
    refine ⟨D3, _, rfl, h3, lq _, fun zs b pm2 so2 nb => ?_⟩
    have S4 : Same H3 (upd H3 b (.lst (zs.map V.str))) := Same.new nb
    have h4 : upd H3 b (.lst (zs.map V.str)) b = some (.lst (zs.map V.str)) := upd_same
    generalize upd H3 b (.lst (zs.map V.str)) = H4 at S4 h4 ⊢
    have SH4 := SH2.trans (S3.trans S4)
    dsimp only [tSeq, tAsg, tCB, tCons, gName]
    refine names_set (n1 := "gate") (n2 := "edit") (SH4 _ _ hf) hal (S0.trans SH4) (okw _ _) (by decide +kernel) (few _) (fun H5 D5 S5 n5 h5 => ?_)
    refine ⟨D5, _, rfl, h5, lq _, fun gs c pm3 so3 nc => ?_⟩
    have S6 : Same H5 (upd H5 c (.lst (gs.map V.str))) := Same.new nc
    have h6 : upd H5 c (.lst (gs.map V.str)) c = some (.lst (gs.map V.str)) := upd_same
    generalize upd H5 c (.lst (gs.map V.str)) = H6 at S6 h6 ⊢
    have SH6 := SH4.trans (S5.trans S6)
    have ha6 : H6 a = some (.lst (ys.map V.str)) := (S5.trans S6) _ _ ((S3.trans S4) _ _ h2)
    have hb6 : H6 b = some (.lst (zs.map V.str)) := (S5.trans S6) _ _ h4
    intro p np
    have S7 : Same H6 (upd H6 p (.dK [])) := Same.new np
    have hp : upd H6 p (.dK []) p = some (.dK []) := upd_same
    have ap : a ≠ p := ne_of_none ha6 np
    have bp : b ≠ p := ne_of_none hb6 np
    have cp : c ≠ p := ne_of_none h6 np
    generalize upd H6 p (.dK []) = H7 at S7 hp ⊢
    have hb7 := S7 _ _ hb6
    refine ⟨_, rfl, _, rfl, b, rfl, ⟨_, SqL.of hb7⟩, fun D nD => ?_⟩
    have bD : b ≠ D := ne_of_none hb7 nD
    have pD : p ≠ D := ne_of_none hp nD
    have lz : zs.length ≤ 4000 := by rw [pm2.length_eq]; have := uniq_le (namesAll ["slot", "source"] fl); have := few ["slot", "source"]; omega
    refine lc_it (walk_list (K := K) (a := b) (xs := zs.map V.str)) (fun i H' => Kp (· = D) (upd H7 D (.lst [])) H' ∧ H' D = some (.lst (((zs.take i).filter fun z : Str => decide (z ≠ "in")).map V.str))) ⟨Kp.refl _, upd_same⟩
      (fun i H' _ q => SqL.of (q.1 _ _ (by rw [upd_ne bD]; exact hb7) bD)) (fun i x H8 H9 hi q y => ?_) (fun H8 q => ?_)
    · obtain ⟨rfl, hx⟩ := y
      obtain ⟨kq, hD⟩ := q
      rw [List.getElem?_map] at hx
      cases ez : zs[i]? with
      | none => rw [ez] at hx; cases hx
      | some z =>
        rw [ez] at hx
        cases Option.some.inj hx
        refine ⟨rfl, ?_⟩
        refine ⟨_, rfl, rfl, ?_⟩
        have ee : (!decide (V.str z = V.str "in")) = decide (z ≠ "in") := by by_cases q : z = "in" <;> simp [q]
        rw [ee]
        by_cases cz : z = "in"
        · refine ⟨_, rfl, ?_⟩
          refine iteF' (by simp [cz]) ?_
          refine ⟨kq, ?_⟩
          rw [hD, take_more ez, List.filter_append, List.filter_cons_of_neg (by simp [cz])]
          simp
        · refine ⟨_, rfl, ?_⟩
          refine iteT' (by simp [cz]) ?_
          refine ⟨_, rfl, _, hD, ?_, fun u o e n => ?_, ?_⟩
          · rw [List.length_map]
            have h1 := List.length_filter_le (fun z : Str => decide (z ≠ "in")) (zs.take i)
            rw [List.length_take] at h1
            rw [sizeLine_eq]
            omega
          · rw [upd_ne n]
            exact kq u o e n
          · rw [upd_same, take_more ez, List.filter_append, List.filter_cons_of_pos (by simp [cz])]
            simp
    · obtain ⟨kq, hD⟩ := q
      rw [List.length_map, List.take_length] at hD
      have S8 : Same H7 H8 := fun u o e => kq u o (by rw [upd_ne (ne_of_none e nD)]; exact e) (ne_of_none e nD)
      refine ⟨_, rfl, S8 _ _ hp, [(.inr "labels", .ref a), (.inr "slots", .ref D), (.inr "gates", .ref c)], rfl, by show 3 ≤ 15; decide, ?_⟩
      have Hp0 : H p = none := SH6.free np
      refine k _ p a D c ys zs gs (fun u o e => ?_) (by rw [upd_same]; rfl) Hp0 ?_ ?_ ?_ pm1 pm2 pm3 ⟨so1, so2, so3⟩ (S1.free na) ((SH6.trans S7).free nD) ((SH4.trans S5).free nc)
      · rw [upd_ne (ne_of_none e Hp0)]
        exact S8 _ _ (S7 _ _ (SH6 _ _ e))
      · rw [upd_ne ap]
        exact S8 _ _ (S7 _ _ ha6)
      · rw [upd_ne pD.symm]
        exact hD
      · rw [upd_ne cp]
        exact S8 _ _ (S7 _ _ h6)
end
end OR

set_option Elab.async false
set_option maxRecDepth 100000
set_option maxHeartbeats 8000000
set_option linter.all false
namespace OR
open PySem PySem.Spec PyProof.Rows L2 TS2
def fault4 (n l s g : Nat) : Option Str := if 60 < n then some "size" else if 6 < l then some "labels" else if 4 < s then some "slots" else if 8 < g then some "gates" else none
def spSizes (K : PySem.W.Frag) : Sp := fun vs H Q E => ∃ (p dx d fa a b c : Addr) (F A B C : List V) (more : List (Str × V)), vs = [.ref p, .ref d] ∧ H p = some (.ins (He.ga K "Plan") dx (("flat", .ref fa) :: more)) ∧ H fa = some (.lst F) ∧
  H d = some (.dK [(.inr "labels", .ref a), (.inr "slots", .ref b), (.inr "gates", .ref c)]) ∧ H a = some (.lst A) ∧ H b = some (.lst B) ∧ H c = some (.lst C) ∧
  (fault4 F.length A.length B.length C.length = none → Q .non H) ∧ (∀ part, fault4 F.length A.length B.length C.length = some part → Refuses K (fun _ => False) H part [] E)
theorem refused0 {K : PySem.W.Frag} {C : Addr → Prop} {H H8 : Hp} {tp : Addr} {path : List Int} {E : XK} {part : Str} (k : Kp C H H8) (n : ∀ d0, H8 d0 = none → H d0 = none) (ht : SqT K H8 tp (path.map V.int)) (r : Refuses K C H part path E) (d0 : Addr) (H' : Hp) (nd : H8 d0 = none)
    (hd : H' d0 = some (.xd [("path", .ref tp), ("part", .str part)])) (oth : ∀ b, b ≠ d0 → H' b = H8 b) : E (.ref (cIP K)) (some d0) H' := by
  have S : Same H8 H' := fun b o h => by rw [oth b (ne_of_none h nd)]; exact h
  exact r d0 tp H' (k.trans (Kp.of S)) (n d0 nd) hd (sameT S ht)
/-- one entry's answer -/
inductive WordsIs (K : PySem.W.Frag) (H : Hp) (m : Int) : V → Bool → Prop
  | tup {a : Addr} {ws : List Str} (h : SqT K H a (ws.map V.str)) (z : ∀ x ∈ ws, x.length ≤ 1000) (few : ws.length ≤ 1000) : WordsIs K H m (.ref a) (areW m ws)
  | no {v : V} (h : NotA K H v "tuple") : WordsIs K H m v false
inductive RoomIs : V → Bool → Prop
  | int (i : Int) : RoomIs (.int i) (decide (1 ≤ i) && decide (i ≤ 3))
  | bl (c : Bool) : RoomIs (.bl c) false
inductive EntryIs (K : PySem.W.Frag) (H : Hp) (part : Str) : V → Bool → Prop
  | asks {v : V} {b : Bool} (e : part = "asks") (h : WordsIs K H 4 v b) : EntryIs K H part v b
  | sigN {v : V} (e : part ≠ "asks") (h : NotA K H v "tuple") : EntryIs K H part v false
  | sig {a : Addr} {r w : V} {br bw : Bool} (e : part ≠ "asks") (h : SqT K H a [r, w]) (hr : RoomIs r br) (hw : WordsIs K H 3 w bw) : EntryIs K H part (.ref a) (br && bw)
theorem NotA.same {K : PySem.W.Frag} {H H' : Hp} {v : V} {x : String} (s : Same H H') (t : ∀ ty, TyX K H v ty → TyX K H' v ty) (h : NotA K H v x) : NotA K H' v x := by
  obtain ⟨ty, h1, h2⟩ := h
  exact ⟨ty, t ty h1, h2⟩
def spEntry (K : PySem.W.Frag) : Sp := fun vs H Q _ => ∃ (v : V) (part : Str) (b : Bool), vs = [v, .str part] ∧ EntryIs K H part v b ∧ ∀ H', Same H H' → Q (.bl b) H'
section
variable {P : Program} {w : World} {K : PySem.W.Frag} {mg : Str → Option Value} {base : Heap}
theorem ok_check_sizes {f : Addr} {fd : FuncData} (F0 : FnP K "check_sizes" "check_sizes" s_check_sizes f fd) (T : Tx w K mg) (E_InvalidProgram : ErrDef P w K mg base CX0 1 "InvalidProgram" (cIP K) ["self", "part", "path"] ["part", "path"]) :
    FnOk P w K mg base (L2.CX P w) 3 f fd p_check_sizes (spSizes K) := by
  refine F0.ok sc_check_sizes (fun vs H Q E h => ?_) (fun cdv A outer s H vs Q E hr h => ?_)
  · obtain ⟨p, dx, d, _, _, _, _, _, _, _, _, _, rfl, _⟩ := h
    rfl
  · obtain ⟨p, dx, d, fa, a, b, c, F, A1, B1, C1, more, rfl, hp, hf, hd, ha, hb, hc, kq, ke⟩ := h
    have hu := hu_of hr
    obtain ⟨t1, mMOST_ROWS⟩ := T.m_MOST_ROWS
    obtain ⟨t2, mMOST_LABELS⟩ := T.m_MOST_LABELS
    obtain ⟨t3, mMOST_SLOTS⟩ := T.m_MOST_SLOTS
    obtain ⟨t4, mMOST_GATES⟩ := T.m_MOST_GATES
    have rf : ∀ {part : Str}, Refuses K (fun _ => False) H part [] E → ∀ (t : Addr), H t = none → ∀ (d0 : Addr) (H' : Hp), upd H t (.tup []) d0 = none → H' d0 = some (.xd [("path", .ref t), ("part", .str part)]) → (∀ b, b ≠ d0 → H' b = upd H t (.tup []) b) → E (.ref (cIP K)) (some d0) H' := fun r t nt =>
      refused0 (path := []) (Kp.of (Same.new nt)) (fun d0 n => (Same.new nt).free n) (SqT.of upd_same) r
    refine ⟨_, (pss_cons (ps_if (pt_cmpR op_gt (pe_callB call_len_seq (by rfl) T.b_len PySem.boot_len (pa_cons (pe_fld (pv 0) rfl) pa_nil)) (pe_glob (by rfl) mMOST_ROWS (show RelV (.int (60)) _ from ⟨_, rfl⟩)) (nomark _)) (pss_one (ps_raise rfl (takes_of rfl rfl rfl rfl) (pmk_errL E_InvalidProgram (hr.mono (by omega)) (by rfl) pass0 (pa_cons pe_str (pa_cons (pe_tup pa_nil) pa_nil))))) pss_nil)
      (pss_cons (ps_if (pt_cmpR op_gt (pe_callB call_len_seq (by rfl) T.b_len PySem.boot_len (pa_cons (pe_dget hu (pv 1) pe_str (fun _ _ => rfl)) pa_nil)) (pe_glob (by rfl) mMOST_LABELS (show RelV (.int (6)) _ from ⟨_, rfl⟩)) (nomark _)) (pss_one (ps_raise rfl (takes_of rfl rfl rfl rfl) (pmk_errL E_InvalidProgram (hr.mono (by omega)) (by rfl) pass0 (pa_cons pe_str (pa_cons (pe_tup pa_nil) pa_nil))))) pss_nil)
      (pss_cons (ps_if (pt_cmpR op_gt (pe_callB call_len_seq (by rfl) T.b_len PySem.boot_len (pa_cons (pe_dget hu (pv 1) pe_str (fun _ _ => rfl)) pa_nil)) (pe_glob (by rfl) mMOST_SLOTS (show RelV (.int (4)) _ from ⟨_, rfl⟩)) (nomark _)) (pss_one (ps_raise rfl (takes_of rfl rfl rfl rfl) (pmk_errL E_InvalidProgram (hr.mono (by omega)) (by rfl) pass0 (pa_cons pe_str (pa_cons (pe_tup pa_nil) pa_nil))))) pss_nil)
      (pss_one (ps_if (pt_cmpR op_gt (pe_callB call_len_seq (by rfl) T.b_len PySem.boot_len (pa_cons (pe_dget hu (pv 1) pe_str (fun _ _ => rfl)) pa_nil)) (pe_glob (by rfl) mMOST_GATES (show RelV (.int (8)) _ from ⟨_, rfl⟩)) (nomark _)) (pss_one (ps_raise rfl (takes_of rfl rfl rfl rfl) (pmk_errL E_InvalidProgram (hr.mono (by omega)) (by rfl) pass0 (pa_cons pe_str (pa_cons (pe_tup pa_nil) pa_nil))))) pss_nil))))), ?_⟩
    refine ⟨_, rfl, p, _, dx, _, _, rfl, hp, T.c_Plan, T.n_Plan_flat, rfl, fa, _, rfl, .inl (SqL.of hf), _, _, rfl, rfl, _, rfl, ?_⟩
    by_cases c1 : 60 < F.length
    · refine iteT' (decide_eq_true (by omega)) ?_
      refine ⟨by show 0 ≤ sizeLine; decide, fun t nt => ⟨rfl, rf (ke "size" (by unfold fault4; rw [if_pos c1])) t nt⟩⟩
    refine iteF' (decide_eq_false (by omega)) ?_
    refine ⟨_, rfl, d, _, rfl, (show DGet H d (.str "labels") (some (.ref a)) from DGet.k (k := .inr "labels") hd), a, _, rfl, .inl (SqL.of ha), _, _, rfl, rfl, _, rfl, ?_⟩
    by_cases c2 : 6 < A1.length
    · refine iteT' (decide_eq_true (by omega)) ?_
      refine ⟨by show 0 ≤ sizeLine; decide, fun t nt => ⟨rfl, rf (ke "labels" (by unfold fault4; rw [if_neg c1, if_pos c2])) t nt⟩⟩
    refine iteF' (decide_eq_false (by omega)) ?_
    refine ⟨_, rfl, d, _, rfl, (show DGet H d (.str "slots") (some (.ref b)) from DGet.k (k := .inr "slots") hd), b, _, rfl, .inl (SqL.of hb), _, _, rfl, rfl, _, rfl, ?_⟩
    by_cases c3 : 4 < B1.length
    · refine iteT' (decide_eq_true (by omega)) ?_
      refine ⟨by show 0 ≤ sizeLine; decide, fun t nt => ⟨rfl, rf (ke "slots" (by unfold fault4; rw [if_neg c1, if_neg c2, if_pos c3])) t nt⟩⟩
    refine iteF' (decide_eq_false (by omega)) ?_
    refine ⟨_, rfl, d, _, rfl, (show DGet H d (.str "gates") (some (.ref c)) from DGet.k (k := .inr "gates") hd), c, _, rfl, .inl (SqL.of hc), _, _, rfl, rfl, _, rfl, ?_⟩
    by_cases c4 : 8 < C1.length
    · refine iteT' (decide_eq_true (by omega)) ?_
      refine ⟨by show 0 ≤ sizeLine; decide, fun t nt => ⟨rfl, rf (ke "gates" (by unfold fault4; rw [if_neg c1, if_neg c2, if_neg c3, if_pos c4])) t nt⟩⟩
    refine iteF' (decide_eq_false (by omega)) ?_
    exact kq (by unfold fault4; rw [if_neg c1, if_neg c2, if_neg c3, if_neg c4])
theorem ok_is_entry {f : Addr} {fd : FuncData} (F0 : FnP K "is_entry" "is_entry" s_is_entry f fd) (T : Tx w K mg) (G_is_integer : Def P w K mg base CX0 1 "is_integer" p_is_integer spIsInt) (G_are_words : Def P w K mg base CX0 2 "are_words" p_are_words (spAreWords K)) :
    FnOk P w K mg base CX0 3 f fd p_is_entry (spEntry K) := by
  refine F0.ok sc_is_entry (fun vs H Q E h => ?_) (fun cdv A outer s H vs Q E hr h => ?_)
  · obtain ⟨v, part, _, rfl, _⟩ := h
    rfl
  · obtain ⟨v, part, b, rfl, he, k⟩ := h
    obtain ⟨t1, mMOST_ANSWERS⟩ := T.m_MOST_ANSWERS
    obtain ⟨t2, mMOST_ROOM⟩ := T.m_MOST_ROOM
    obtain ⟨t3, mMOST_SIGNAL_WORDS⟩ := T.m_MOST_SIGNAL_WORDS
    refine ⟨_, PSs.nox (pss_cons (ps_if (pt_cmpR op_eq (pv 1) pe_str (nomark _)) (pss_one (ps_ret (pe_fn G_are_words (hr.mono (by omega)) (by rfl) pass0 (pa_cons (pv 0) (pa_cons (pe_glob (by rfl) mMOST_ANSWERS (show RelV (.int (4)) _ from ⟨_, rfl⟩)) pa_nil))))) pss_nil)
      (pss_cons (ps_if (PW.pt (pw_or (pt_not (pt_val (pe_callB call_isi (by rfl) T.b_isinstance (by decide +kernel) (pa_cons (pv 0) (pa_cons (pe_bltn (v := .ty "tuple") (u := .type "tuple") (by rfl) T.b_tuple (by decide +kernel) rfl) pa_nil))))) (pw_or1 (pt_cmpR op_ne (pe_callB call_len_seq (by rfl) T.b_len PySem.boot_len (pa_cons (pv 0) pa_nil)) pe_int (nomark _))))) (pss_one (ps_ret pe_bl)) pss_nil)
      (pss_cons (ps_asg (pv 0) (pg_tup (by rfl) (pgs_cons (pg_name (i := 2) sc_is_entry.nd rfl (.inl rfl)) (pgs_cons (pg_name (i := 3) sc_is_entry.nd rfl (.inl rfl)) pgs_nil))))
      (pss_one (ps_ret (pe_and (pe_fn G_is_integer (hr.mono (by omega)) (by rfl) pass0 (pa_cons (pv 2) pa_nil)) (pe_and (pe_chain op_le op_le pe_int (pv 2) (pe_glob (by rfl) mMOST_ROOM (show RelV (.int (3)) _ from ⟨_, rfl⟩))) (pe_one (pe_fn G_are_words (hr.mono (by omega)) (by rfl) pass0 (pa_cons (pv 3) (pa_cons (pe_glob (by rfl) mMOST_SIGNAL_WORDS (show RelV (.int (3)) _ from ⟨_, rfl⟩)) pa_nil))))))))))), ?_⟩
    refine ⟨_, rfl, rfl, _, rfl, ?_⟩
    cases he with
    | asks e hw =>
      refine iteT' (decide_eq_true (by rw [e])) ?_
      refine ⟨_, rfl, v, 4, rfl, ?_⟩
      cases hw with
      | tup h z few => exact .inl ⟨_, _, rfl, h, fun x hx => Nat.le_of_lt (small1000 (z x hx)), few, k⟩
      | no h => exact .inr ⟨h, k H (Same.refl H)⟩
    | sigN e h =>
      obtain ⟨ty, n1, n2⟩ := h
      refine iteF' (decide_eq_false fun z => e (by injection z)) ?_
      refine ⟨_, rfl, v, .ty "tuple", _, _, false, rfl, .ty _, n1, n2, _, rfl, ?_⟩
      refine iteT ?_
      refine iteT ?_
      exact k H (Same.refl H)
    | sig e h hr2 hw =>
      rename_i a r w1 br bw
      refine iteF' (decide_eq_false fun z => e (by injection z)) ?_
      refine ⟨_, rfl, .ref a, .ty "tuple", _, _, true, rfl, .ty _, tyT h, kit_ty (by decide +kernel), _, rfl, ?_⟩
      refine iteF ⟨_, rfl, a, _, rfl, .inr h, rfl, _, rfl, ?_⟩
      refine iteF' (by rfl) ?_
      refine ⟨_, rfl, a, _, rfl, h, rfl, _, _, rfl, _, _, rfl, rfl, ?_⟩
      refine ⟨_, rfl, ?_⟩
      cases hr2 with
      | bl c =>
        refine ⟨.bl c, false, rfl, .inr (.inl ⟨c, rfl, rfl⟩), ?_⟩
        refine ⟨_, rfl, ?_⟩
        exact iteF (k H (Same.refl H))
      | int i =>
        refine ⟨.int i, true, rfl, .inl ⟨i, rfl, rfl⟩, ?_⟩
        refine ⟨_, rfl, iteT ?_⟩
        refine tchainC (i := 1) (j := i) (c := 3) val_c (val_var rfl) ?_
        refine ⟨_, rfl, ?_⟩
        have k' : ∀ H', Same H H' → Q (.bl ((decide (1 ≤ i) && decide (i ≤ 3)) && bw)) H' := k
        cases eb : (decide (1 ≤ i) && decide (i ≤ 3)) with
        | false =>
          rw [eb] at k'
          exact iteF (k' H (Same.refl H))
        | true =>
          rw [eb] at k'
          refine iteT ⟨_, rfl, w1, 3, rfl, ?_⟩
          cases hw with
          | tup h2 z few => exact .inl ⟨_, _, rfl, h2, fun x hx => Nat.le_of_lt (small1000 (z x hx)), few, k'⟩
          | no h2 => exact .inr ⟨h2, k' H (Same.refl H)⟩
end
end OR

set_option Elab.async false
set_option maxRecDepth 100000
set_option maxHeartbeats 8000000
set_option linter.all false
namespace OR
open PySem PySem.Spec PyProof.Rows L2 TS2
/-- a table's entries: their names, the answers about their values -/
structure TabIs (K : PySem.W.Frag) (H : Hp) (part : Str) (kvs : List (Key × V)) (ns : List Str) (bs : List Bool) : Prop where
  names : kvs.map (·.1) = ns.map Sum.inr
  len : bs.length = kvs.length
  ans : ∀ (i : Nat) (v : V) (b : Bool), (kvs.map (·.2))[i]? = some v → bs[i]? = some b → EntryIs K H part v b
  small : ∀ z ∈ ns, z.length ≤ 1000
def tabOk (ns : List Str) (bs : List Bool) : Bool := (ns.zip bs).all fun x => isWord x.1 && x.2
def spTable (K : PySem.W.Frag) : Sp := fun vs H Q E => ∃ (v : V) (part : Str) (most : Int), vs = [v, .str part, .int most] ∧
  ((v = .non ∧ ∀ D, H D = none → Q (.ref D) (upd H D (.dK []))) ∨ (NotA K H v "dict" ∧ v ≠ .non ∧ Refuses K (fun _ => False) H part [] E) ∨
    ∃ (d : Addr) (kvs : List (Key × V)) (ns : List Str) (bs : List Bool), v = .ref d ∧ H d = some (.dK kvs) ∧ kvs.length ≤ 1000 ∧ (∀ H', Kp (· = d) H H' → TabIs K H' part kvs ns bs) ∧
      (((kvs.length : Int) ≤ most ∧ tabOk ns bs = true) → ∀ H' D, Same H H' → H D = none → H' D = some (.dK kvs) → Q (.ref D) H') ∧ (¬ ((kvs.length : Int) ≤ most ∧ tabOk ns bs = true) → Refuses K (· = d) H part [] E))
theorem tyD {K : PySem.W.Frag} {H : Hp} {a : Addr} {kvs : List (Key × V)} (h : H a = some (.dK kvs)) : TyX K H (.ref a) (.type "dict") := .base (.dK h)
section
variable {P : Program} {w : World} {K : PySem.W.Frag} {mg : Str → Option Value} {base : Heap}
theorem ok_checked_table {f : Addr} {fd : FuncData} (F0 : FnP K "checked_table" "checked_table" s_checked_table f fd) (T : Tx w K mg) (E_InvalidProgram : ErrDef P w K mg base CX0 1 "InvalidProgram" (cIP K) ["self", "part", "path"] ["part", "path"])
    (G_is_word : Def P w K mg base CX0 1 "is_word" p_is_word (spIsWord K)) (G_is_entry : Def P w K mg base CX0 3 "is_entry" p_is_entry (spEntry K)) : FnOk P w K mg base (L2.CX P w) 4 f fd p_checked_table (spTable K) := by
  refine F0.ok sc_checked_table (fun vs H Q E h => ?_) (fun cdv A outer s H vs Q E hr h => ?_)
  · obtain ⟨v, part, most, rfl, _⟩ := h
    rfl
  · obtain ⟨v, part, most, rfl, h⟩ := h
    refine ⟨_, (pss_cons (ps_if (pt_cmpR op_isN (pv 0) pe_non (nomark _)) (pss_one (ps_ret pe_dnewK)) pss_nil)
      (pss_cons (ps_if (PW.pt (pw_or (pt_not (pt_val (pe_callB call_isi (by rfl) T.b_isinstance (by decide +kernel) (pa_cons (pv 0) (pa_cons (pe_bltn (v := .ty "dict") (u := .type "dict") (by rfl) T.b_dict (by decide +kernel) rfl) pa_nil))))) (pw_or1 (pt_cmpR op_gt (pe_callB call_lenD (by rfl) T.b_len PySem.boot_len (pa_cons (pv 0) pa_nil)) (pv 2) (nomark _))))) (pss_one (ps_raise rfl (takes_of rfl rfl rfl rfl) (pmk_errL E_InvalidProgram (hr.mono (by omega)) (by rfl) pass0 (pa_cons (pv 1) (pa_cons (pe_tup pa_nil) pa_nil))))) pss_nil)
      (pss_cons (ps_lock (ps_for (passes_of rfl) rfl (pi_items (pv 0)) (pg_tup (by rfl) (pgs_cons (pg_name (i := 3) sc_checked_table.nd rfl (.inl rfl)) (pgs_cons (pg_name (i := 4) sc_checked_table.nd rfl (.inl rfl)) pgs_nil))) (pss_one (ps_if (PW.pt (pw_or (pt_not (pt_val (pe_fn G_is_word (hr.mono (by omega)) (by rfl) pass0 (pa_cons (pv 3) pa_nil)))) (pw_or1 (pt_not (pt_val (pe_fn G_is_entry (hr.mono (by omega)) (by rfl) pass0 (pa_cons (pv 4) (pa_cons (pv 1) pa_nil)))))))) (pss_one (ps_raise rfl (takes_of rfl rfl rfl rfl) (pmk_errL E_InvalidProgram (hr.mono (by omega)) (by rfl) pass0 (pa_cons (pv 1) (pa_cons (pe_tup pa_nil) pa_nil))))) pss_nil))))
      (pss_one (ps_ret (pe_callTy call_dictD (by rfl) T.b_dict (by decide +kernel) (pa_cons (pv 0) pa_nil))))))), ?_⟩
    refine ⟨_, rfl, rfl, _, rfl, ?_⟩
    rcases h with ⟨rfl, k⟩ | ⟨⟨ty, n1, n2⟩, nn, ke⟩ | ⟨d, kvs, ns, bs, rfl, hd, few, tab, kq, ke⟩
    · refine iteT' (by rfl) ?_
      intro D nD
      exact k D nD
    · refine iteF' (decide_eq_false nn) ?_
      refine ⟨_, rfl, v, .ty "dict", _, _, false, rfl, .ty _, n1, n2, _, rfl, ?_⟩
      refine iteT ?_
      refine iteT ?_
      exact ⟨_, rfl, by show 0 ≤ sizeLine; decide, fun t nt => ⟨rfl, refused0 (path := []) (Kp.of (Same.new nt)) (fun d0 n => (Same.new nt).free n) (SqT.of upd_same) ke⟩⟩
    · refine iteF' (by rfl) ?_
      refine ⟨_, rfl, .ref d, .ty "dict", _, _, true, rfl, .ty _, tyD hd, kit_ty (by decide +kernel), _, rfl, ?_⟩
      refine iteF ?_
      refine ⟨_, rfl, d, kvs, rfl, hd, _, rfl, _, _, rfl, rfl, _, rfl, ?_⟩
      by_cases c1 : (most < (kvs.length : Int))
      · refine iteT' (decide_eq_true c1) ?_
        exact ⟨_, rfl, by show 0 ≤ sizeLine; decide, fun t nt => ⟨rfl, refused0 (path := []) (Kp.of (Same.new nt)) (fun d0 n => (Same.new nt).free n) (SqT.of upd_same) (ke (fun z => by omega))⟩⟩
      refine iteF' (decide_eq_false c1) ?_
      have tab0 := tab H (Kp.refl H)
      have ln : ns.length = kvs.length := by have := congrArg List.length tab0.names; simpa using this.symm
      have lz : (ns.zip bs).length = kvs.length := by rw [List.length_zip, ln, tab0.len]; simp
      have fr : ∀ {Hc : Hp} {u : HO}, Kp (· = d) H Hc → Hc d = some u → ∀ d0, Hc d0 = none → H d0 = none := fun {Hc u} kp hc d0 n => by
        cases q : H d0 with
        | none => rfl
        | some o =>
          by_cases z : d0 = d
          · rw [z, hc] at n; cases n
          · rw [kp _ _ q z] at n; cases n
      refine ⟨d, .dK kvs, hd, trivial, fun od => ?_⟩
      refine ⟨_, rfl, d, od, kvs, rfl, upd_same, ?_⟩
      refine for_it (walk_items (d := d) (o := od) (kvs := kvs)) (fun i σ' H' => (∃ y3 y4, σ' = [some (.ref d), some (.str part), some (.int most), y3, y4]) ∧ H' d = some (.frz od (.dK kvs)) ∧ Kp (· = d) H H' ∧ ((ns.zip bs).take i).all (fun x => isWord x.1 && x.2) = true)
        ⟨⟨_, _, rfl⟩, upd_same, Kp.put rfl, rfl⟩ (fun i σ' H' _ q => q.2.1) (fun i x σ' H3 H4 hi q y => ?_) (fun σ' H' q => ?_)
      · obtain ⟨⟨y3, y4, rfl⟩, hf, kp, al⟩ := q
        obtain ⟨T1, kx, vx, rfl, nT, rfl, hk, hv⟩ := y
        have hkv : kvs[i]? = some kvs[i] := List.getElem?_eq_getElem hi
        have hk : kvs[i]?.map (fun kv => kV kv.1) = some kx := hk
        have hv : kvs[i]?.map Prod.snd = some vx := hv
        have hn : ns[i]? = some (ns[i]'(by omega)) := List.getElem?_eq_getElem _
        have hb : bs[i]? = some (bs[i]'(by rw [tab0.len]; exact hi)) := List.getElem?_eq_getElem _
        generalize ns[i]'(by omega) = z at hn
        generalize bs[i]'(by rw [tab0.len]; exact hi) = bb at hb
        have ek : kx = .str z := by
          have e1 : (kvs.map (·.1))[i]? = (ns.map (Sum.inr : Str → Key))[i]? := by rw [tab0.names]
          rw [List.getElem?_map, List.getElem?_map, hn, hkv] at e1
          rw [hkv] at hk
          have e2 : kvs[i].1 = Sum.inr z := Option.some.inj e1
          have e3 : kV kvs[i].1 = kx := Option.some.inj hk
          rw [← e3, e2]
          rfl
        subst ek
        have hz : (ns.zip bs)[i]? = some (z, bb) := by rw [List.getElem?_zip_eq_some]; exact ⟨hn, hb⟩
        have S1 : Same H3 (upd H3 T1 (.tup [.str z, vx])) := Same.new nT
        refine ⟨T1, _, rfl, SqT.of upd_same, rfl, _, _, rfl, _, _, rfl, rfl, ?_⟩
        have hf4 := S1 _ _ hf
        have kp4 := kp.trans (Kp.of (C := (· = d)) S1)
        generalize upd H3 T1 (.tup [.str z, vx]) = H5 at hf4 kp4 ⊢
        refine ⟨_, rfl, .inl ⟨z, rfl, Nat.le_of_lt (small1000 (tab0.small z (List.mem_of_getElem? hn))), fun H6 S6 => ?_⟩⟩
        have kp6 := kp4.trans (Kp.of (C := (· = d)) S6)
        have hf6 := S6 _ _ hf4
        have bad : (isWord z && bb) = false → ¬ ((kvs.length : Int) ≤ most ∧ tabOk ns bs = true) := fun e q => by
          have := q.2
          unfold tabOk at this
          rw [List.all_eq_true] at this
          have h1 := this _ (List.mem_of_getElem? hz)
          simp only at h1
          rw [e] at h1
          cases h1
        refine ⟨_, rfl, ?_⟩
        cases ew : isWord z with
        | false =>
          refine iteT ?_
          refine ⟨_, rfl, by show 0 ≤ sizeLine; decide, fun t nt => ⟨rfl, ?_⟩⟩
          exact refused0 (path := []) (kp6.trans (Kp.of (Same.new nt))) (fun d0 n => fr kp6 hf6 d0 ((Same.new nt).free n)) (SqT.of upd_same) (ke (bad (by rw [ew]; rfl)))
        | true =>
          refine iteF ?_
          refine ⟨_, rfl, _, rfl, vx, part, bb, rfl, (tab H6 kp6).ans i vx bb (by rw [List.getElem?_map]; exact hv) hb, fun H7 S7 => ?_⟩
          have kp7 := kp6.trans (Kp.of (C := (· = d)) S7)
          have hf7 := S7 _ _ hf6
          refine ⟨_, rfl, ?_⟩
          cases eb : bb with
          | false =>
            refine iteT ?_
            refine ⟨_, rfl, by show 0 ≤ sizeLine; decide, fun t nt => ⟨rfl, ?_⟩⟩
            exact refused0 (path := []) (kp7.trans (Kp.of (Same.new nt))) (fun d0 n => fr kp7 hf7 d0 ((Same.new nt).free n)) (SqT.of upd_same) (ke (bad (by rw [eb]; simp)))
          | true =>
            refine iteF ?_
            refine ⟨⟨_, _, rfl⟩, hf7, kp7, ?_⟩
            rw [take_more hz, List.all_append, al]
            simp [ew, eb]
      · obtain ⟨⟨y3, y4, rfl⟩, hf, kp, al⟩ := q
        refine ⟨hf, ?_⟩
        rw [← lz, List.take_length] at al
        have S9 : Same H (upd H' d (.dK kvs)) := fun b o e => by
          by_cases z : b = d
          · rw [z, upd_same, ← hd, ← z, e]
          · rw [upd_ne z]; exact kp b o e z
        refine ⟨_, rfl, d, kvs, rfl, .inl upd_same, fun D nD => ?_⟩
        exact kq ⟨by omega, al⟩ _ D (S9.trans (Same.new nD)) (S9.free nD) upd_same
end
end OR

set_option Elab.async false
set_option maxRecDepth 100000
set_option maxHeartbeats 8000000
set_option linter.all false
namespace OR
open PySem PySem.Spec PyProof.Rows L2 TS2
/-- an argument that is to be a table, as it stands in H0: what it holds, or that it is refused -/
inductive TabArg (K : PySem.W.Frag) (H0 : Hp) (part : Str) (most : Int) : V → Option (List (Key × V)) → Prop
  | non : TabArg K H0 part most .non (some [])
  | bad {v : V} (n : v ≠ .non) (h : ∀ H', Same H0 H' → NotA K H' v "dict") : TabArg K H0 part most v none
  | good {d : Addr} {kvs : List (Key × V)} {ns : List Str} {bs : List Bool} (h : H0 d = some (.dK kvs)) (few : kvs.length ≤ 1000) (t : ∀ H', Kp (· = d) H0 H' → TabIs K H' part kvs ns bs) (ok : (kvs.length : Int) ≤ most ∧ tabOk ns bs = true) : TabArg K H0 part most (.ref d) (some kvs)
  | wrong {d : Addr} {kvs : List (Key × V)} {ns : List Str} {bs : List Bool} (h : H0 d = some (.dK kvs)) (few : kvs.length ≤ 1000) (t : ∀ H', Kp (· = d) H0 H' → TabIs K H' part kvs ns bs) (no : ¬ ((kvs.length : Int) ≤ most ∧ tabOk ns bs = true)) : TabArg K H0 part most (.ref d) none
theorem tab_call {K : PySem.W.Frag} {H0 H : Hp} {part : Str} {most : Int} {v : V} {o : Option (List (Key × V))} {Q : VK} {E : XK} (t : TabArg K H0 part most v o) (S : Same H0 H) (kq : ∀ kvs, o = some kvs → ∀ H' D, Same H H' → H D = none → H' D = some (.dK kvs) → Q (.ref D) H')
    (ke : o = none → Refuses K (fun b => v = .ref b) H part [] E) : spTable K [v, .str part, .int most] H Q E := by
  have wk : ∀ {C : Addr → Prop}, (∀ b, C b → v = .ref b) → o = none → Refuses K C H part [] E := fun {C} h e dd t H' k nd hd ht => ke e dd t H' (k.mono h) nd hd ht
  refine ⟨v, part, most, rfl, ?_⟩
  cases t with
  | non => exact .inl ⟨rfl, fun D nD => kq [] rfl _ D (Same.new nD) nD upd_same⟩
  | bad n h => exact .inr (.inl ⟨h H S, n, wk (fun _ z => z.elim) rfl⟩)
  | good h few t ok => exact .inr (.inr ⟨_, _, _, _, rfl, S _ _ h, few, fun H' k => t H' ((Kp.of S).trans k), fun _ H' D S' n e => kq _ rfl H' D S' n e, fun no => absurd ok no⟩)
  | wrong h few t no => exact .inr (.inr ⟨_, _, _, _, rfl, S _ _ h, few, fun H' k => t H' ((Kp.of S).trans k), fun ok => absurd ok no, fun _ => wk (fun _ z => by rw [z]) rfl⟩)
/-! ### what passes the check has the shape -/
theorem seqChk_none {α : Type} {f : α → List Int → Sn → Option (List Int) × Sn} {pre : List Int} : ∀ {l : List α} {i : Nat} {st : Sn}, (seqChk f pre l i st).1 = none → ∀ x ∈ l, ∃ p st', (f x p st').1 = none
  | [], _, _, _, x, hx => by simp at hx
  | y :: ys, i, st, h, x, hx => by
    unfold seqChk at h
    cases e : f y (pre ++ [(i : Int)]) st with
    | mk o st' =>
      rw [e] at h
      cases o with
      | some p => simp at h
      | none =>
        rcases List.mem_cons.mp hx with rfl | hx
        · exact ⟨_, _, by rw [e]⟩
        · exact seqChk_none h x hx
theorem chk_shape (ed : Bool) (ka ks : List (Key × V)) : ∀ (d : Nat) (il : Bool) (rows : List (Row d)) (pre : List Int) (st : Sn), (chk ed ka ks d il rows pre st).1 = none → (∀ r ∈ rows, Pre d r) → ∀ r ∈ rows, Shape d r
  | 0, _, _, _, _, _, _, r, _ => nomatch r
  | d + 1, il, rows, pre, st, h, pr, r, hr => by
    obtain ⟨p, st', e⟩ := seqChk_none (f := oneChk ed ka ks (chk ed ka ks d) il) h r hr
    obtain ⟨hf, nice, l1, k1, kk⟩ := pr r hr
    unfold oneChk at e
    cases c1 : (hasForm ed ka ks r.1 (fsOf r.1) r.2 && mayS r.1 p.length il (kids r.2).length) with
    | false => rw [c1] at e; simp at e
    | true =>
      rw [c1] at e
      have hk := hasForm_kinds (by simp only [Bool.and_eq_true] at c1; exact c1.1)
      refine ⟨⟨_, hf, hk⟩, fun q hq => ?_, k1, fun l hl => ⟨(kk l hl).1, ?_⟩⟩
      · obtain ⟨i, hi⟩ := List.getElem?_of_mem hq
        obtain ⟨f, hfi, _⟩ := hk.other hi
        exact (nice (f, q) (List.mem_of_getElem? (i := i) (by rw [List.getElem?_zip_eq_some]; exact ⟨hfi, hi⟩))).2.1
      · rw [if_pos rfl] at e
        cases c3 : (isNew (fsOf r.1) r.2 st').1 with
        | false => rw [c3] at e; simp at e
        | true =>
          rw [c3, if_pos rfl] at e
          obtain ⟨p2, st2, e2⟩ := seqChk_none e l hl
          exact chk_shape ed ka ks d _ l p2 st2 e2 (kk l hl).2
theorem named_le {R : Type} (which : List Str) : ∀ (fs : List Str) (ps : List (Pt R)), (∀ p ∈ ps, (wordsP p).length ≤ 100) → (named which fs ps).length ≤ 100 * ps.length
  | [], ps, _ => by simp [named]
  | f :: fs, [], _ => by simp [named]
  | f :: fs, p :: ps, h => by
    have ih := named_le which fs ps fun q hq => h q (List.mem_cons_of_mem _ hq)
    have h1 := h p List.mem_cons_self
    have e : named which (f :: fs) (p :: ps) = (if f ∈ which then wordsP p else []) ++ named which fs ps := by unfold named; simp
    rw [e, List.length_append, List.length_cons]
    have h2 : (if f ∈ which then wordsP p else []).length ≤ 100 := by
      split
      · exact h1
      · simp
    omega
/-- what is told of a row within the flat list -/
def FlatOk (x : AnyRow) : Prop := (x.2.1, fsOf x.2.1) ∈ ftab ∧ KindsOk (fsOf x.2.1) x.2.2 ∧ ∀ which, (named which (fsOf x.2.1) x.2.2).length ≤ 1000
theorem flat_ok : ∀ (d : Nat) (r : Row d), Shape d r → ∀ x ∈ flatR d r, FlatOk x
  | 0, r, _, _, _ => nomatch r
  | d + 1, r, sh, x, hx => by
    have four := sh.parts
    obtain ⟨⟨fs, hf, hk⟩, wl, _, sk⟩ := sh
    have ef : fsOf r.1 = fs := fsOf_at _ hf
    rcases List.mem_cons.mp hx with rfl | hx
    · refine ⟨by show (r.1, fsOf r.1) ∈ ftab; rw [ef]; exact hf, by show KindsOk (fsOf r.1) r.2; rw [ef]; exact hk, fun which => ?_⟩
      have := named_le which (fsOf r.1) r.2 wl
      show (named which (fsOf r.1) r.2).length ≤ 1000
      omega
    · rw [List.mem_flatten] at hx
      obtain ⟨l, hl, hx⟩ := hx
      rw [List.mem_map] at hl
      obtain ⟨l', hl', rfl⟩ := hl
      rw [List.mem_flatten] at hx
      obtain ⟨l2, hl2, hx⟩ := hx
      rw [List.mem_map] at hl2
      obtain ⟨r', hr', rfl⟩ := hl2
      exact flat_ok d r' ((sk l' hl').2 r' hr') x hx
theorem flatL_ok {d : Nat} {rows : List (Row d)} (sh : ∀ r ∈ rows, Shape d r) : ∀ x ∈ flatL d rows, FlatOk x := fun x hx => by
  unfold flatL at hx
  rw [List.mem_flatten] at hx
  obtain ⟨l, hl, hx⟩ := hx
  rw [List.mem_map] at hl
  obtain ⟨r, hr, rfl⟩ := hl
  exact flat_ok d r (sh r hr) x hx
end OR

set_option Elab.async false
set_option maxRecDepth 100000
set_option maxHeartbeats 8000000
set_option linter.all false
namespace OR
open PySem PySem.Spec PyProof.Rows L2 TS2
def labelsN (d : Nat) (rows : List (Row d)) : Nat := (uniq (namesAll ["label", "labels"] (flatL d rows))).length
def slotsN (d : Nat) (rows : List (Row d)) : Nat := ((uniq (namesAll ["slot", "source"] (flatL d rows))).filter fun z : Str => decide (z ≠ "in")).length
def gatesN (d : Nat) (rows : List (Row d)) : Nat := (uniq (namesAll ["gate", "edit"] (flatL d rows))).length
/-- what a draft of these parts is refused with, if it is -/
def outcome (ed : Bool) (oa os : Option (List (Key × V))) (bi : Bool) (d : Nat) (orows : Option (List (Row d))) : Option (Str × List Int) :=
  match oa with
  | none => some ("asks", [])
  | some ka => match os with
    | none => some ("signals", [])
    | some ks => if bi then (match orows with
        | none => some ("rows", [])
        | some rows => match (chk ed ka ks d false rows [] ([], [])).1 with
          | some path => some ("rows", path)
          | none => (fault4 (lsz d rows) (labelsN d rows) (slotsN d rows) (gatesN d rows)).map fun part => (part, []))
      else some ("inputs", [])
inductive RowsArg (K : PySem.W.Frag) (H0 : Hp) (d : Nat) : V → Option (List (Row d)) → Prop
  | bad {v : V} (h : ∀ H', Same H0 H' → NotA K H' v "list") : RowsArg K H0 d v none
  | good {r : Addr} {xs : List V} {rows : List (Row d)} (h : H0 r = some (.lst xs)) (a : All2 (RowAt K H0 d) rows xs) (p : ∀ x ∈ rows, Pre d x) (lr : rows.length ≤ 1000) (few : lsz d rows ≤ 2900) (names : ∀ which, (namesAll which (flatL d rows)).length ≤ 4000) : RowsArg K H0 d (.ref r) (some rows)
def draftF (a s : Addr) (i : V) (l pl nt : Addr) : List (Str × V) := [("ask_table", .ref a), ("signal_table", .ref s), ("input_words", i), ("row_list", .ref l), ("plan", .ref pl), ("name_table", .ref nt)]
/-- the classes of drafts: their fields are told by no attribute -/
structure DCls (K : PySem.W.Frag) (C : Addr) : Prop where
  c : Cls K C
  n : ∀ f ∈ (["ask_table", "signal_table", "input_words", "row_list", "plan", "name_table"] : List Str), NoAttr K C f
/-- the names of a program, in tables of their own -/
def NamesOk (d : Nat) (rows : List (Row d)) (H : Hp) (nt : Addr) : Prop := ∃ (a b c : Addr) (ys zs gs : List Str), H nt = some (.dK [(.inr "labels", .ref a), (.inr "slots", .ref b), (.inr "gates", .ref c)]) ∧ H a = some (.lst (ys.map V.str)) ∧ H b = some (.lst ((zs.filter fun z : Str => decide (z ≠ "in")).map V.str)) ∧ H c = some (.lst (gs.map V.str)) ∧
  ys.Perm (uniq (namesAll ["label", "labels"] (flatL d rows))) ∧ zs.Perm (uniq (namesAll ["slot", "source"] (flatL d rows))) ∧ gs.Perm (uniq (namesAll ["gate", "edit"] (flatL d rows))) ∧ sortedS ys = true ∧ sortedS zs = true ∧ sortedS gs = true
/-- a draft that stands -/
def DraftOk (K : PySem.W.Frag) (H : Hp) (p dx C : Addr) (ka ks : List (Key × V)) (vi : V) (d : Nat) (rows : List (Row d)) : Prop := ∃ (a s l pl nt dx2 : Addr) (ys : List V), H p = some (.ins C dx (draftF a s vi l pl nt)) ∧ H a = some (.dK ka) ∧ H s = some (.dK ks) ∧ H l = some (.lst ys) ∧ All2 (RowAt K H d) rows ys ∧
  (∀ r ∈ rows, Shape d r) ∧ PlanOk K H H pl dx2 (planOf d rows) ∧ NamesOk d rows H nt
theorem AnyAt.mono {K : PySem.W.Frag} {H H' : Hp} (s : Same H H') {x : AnyRow} {v : V} (h : AnyAt K H x v) : AnyAt K H' x v := RowAt.mono s h
theorem PlanOk.both {K : PySem.W.Frag} {H0 H0' H H' : Hp} {p dx : Addr} {P : PM} (c : PlanOk K H0 H p dx P) (s0 : Same H0 H0') (s : Same H H') : PlanOk K H0' H' p dx P := by
  obtain ⟨a1, a2, a3, a4, a5, a6, a7, F, pa, ce, cs, c⟩ := c.same s
  exact ⟨a1, a2, a3, a4, a5, a6, a7, F, pa, ce, cs, { c with fl := c.fl.imp fun _ _ _ h => h.mono s0 }⟩
theorem NamesOk.same {d : Nat} {rows : List (Row d)} {H H' : Hp} {nt : Addr} (c : NamesOk d rows H nt) (s : Same H H') : NamesOk d rows H' nt := by
  obtain ⟨a, b, c, ys, zs, gs, h0, h1, h2, h3, pm⟩ := c
  exact ⟨a, b, c, ys, zs, gs, s _ _ h0, s _ _ h1, s _ _ h2, s _ _ h3, pm⟩
theorem DraftOk.same {K : PySem.W.Frag} {H H' : Hp} {p dx C : Addr} {ka ks : List (Key × V)} {vi : V} {d : Nat} {rows : List (Row d)} (c : DraftOk K H p dx C ka ks vi d rows) (s : Same H H') : DraftOk K H' p dx C ka ks vi d rows := by
  obtain ⟨a, z, l, pl, nt, dx2, ys, h0, h1, h2, h3, h4, sh, h5, h6⟩ := c
  exact ⟨a, z, l, pl, nt, dx2, ys, s _ _ h0, s _ _ h1, s _ _ h2, s _ _ h3, h4.imp fun _ _ _ q => q.mono s, sh, h5.both s s, h6.same s⟩
/-- what stood before p was made is still out of the way -/
theorem nl_of {H HX : Hp} {p b : Addr} (sv : Sv H HX p) (h : NL HX b) (n : b ≠ p) : NL H b := fun o e => h o (sv b o e n)
def spDraft (K : PySem.W.Frag) (d : Nat) : Sp := fun vs H Q E => ∃ (p dx C : Addr) (vr va vg vi : V) (ed bi : Bool) (oa os : Option (List (Key × V))) (orows : Option (List (Row d))) (H0 : Hp), vs = [.ref p, vr, va, vg, vi, .bl ed] ∧ DCls K C ∧ H p = some (.ins C dx []) ∧ H0 p = none ∧ Same H0 H ∧ d ≤ 40 ∧
  TabArg K H0 "asks" 6 va oa ∧ TabArg K H0 "signals" 3 vg os ∧ (∀ H', Same H0 H' → WordsIs K H' 3 vi bi) ∧ RowsArg K H0 d vr orows ∧
  (∀ part path, outcome ed oa os bi d orows = some (part, path) → Refuses K (fun b => b = p ∨ va = .ref b ∨ vg = .ref b) H part path E) ∧
  (outcome ed oa os bi d orows = none → ∀ (ka ks : List (Key × V)) (rows : List (Row d)), oa = some ka → os = some ks → orows = some rows → ∀ (H' : Hp), Sv H H' p → DraftOk K (res (Own H p) H') p dx C ka ks vi d rows → Q .non H')
theorem words_alt {K : PySem.W.Frag} {H : Hp} {m : Int} {v : V} {b : Bool} (h : WordsIs K H m v b) : (∃ a ws, v = .ref a ∧ SqT K H a (ws.map V.str) ∧ (∀ z ∈ ws, z.length ≤ sizeLine) ∧ ws.length ≤ 1000 ∧ areW m ws = b) ∨ (NotA K H v "tuple" ∧ b = false) := by
  cases h with
  | tup h z few => exact .inl ⟨_, _, rfl, h, fun x hx => Nat.le_of_lt (small1000 (z x hx)), few, rfl⟩
  | no h => exact .inr ⟨h, rfl⟩
section
variable {P : Program} {w : World} {K : PySem.W.Frag} {mg : Str → Option Value} {base : Heap}
theorem ok_draft {k0 kc kd kp d : Nat} {f : Addr} {fd : FuncData} (F0 : FnP K "__init__" "Draft.__init__" s_Draft___init__ f fd) (T : Tx w K mg) (h5 : 5 ≤ k0) (hc : kc ≤ k0) (hd : kd ≤ k0) (hpk : kp + 1 ≤ k0)
    (E_InvalidProgram : ErrDef P w K mg base CX0 1 "InvalidProgram" (cIP K) ["self", "part", "path"] ["part", "path"]) (G_checked_table : Def P w K mg base (L2.CX P w) 4 "checked_table" p_checked_table (spTable K))
    (G_are_words : Def P w K mg base CX0 2 "are_words" p_are_words (spAreWords K)) (K_RowCheck : MkA P w K mg base CX0 1 "RowCheck" (He.ga K "RowCheck") [] p_RowCheck___init__ (spRCinit K))
    (M_check_rows : MDef P w K mg base (L2.CX P w) kc (He.ga K "RowCheck") "check_rows" p_RowCheck_check_rows (spCheckRows K d)) (G_copied : Def P w K mg base CX0 kd "copied" p_copied (spCopied K (d + 1)))
    (K_Plan : MkA P w K mg base CX0 kp "Plan" (He.ga K "Plan") [] p_Plan___init__ (spPlanInit K d)) (G_named_in : Def P w K mg base CX0 2 "named_in" p_named_in (spNamedIn K))
    (G_check_sizes : Def P w K mg base (L2.CX P w) 3 "check_sizes" p_check_sizes (spSizes K)) : FnOk P w K mg base (L2.CX P w) (k0 + 1) f fd p_Draft___init__ (spDraft K d) := by
  refine F0.ok sc_Draft___init__ (fun vs H Q E h => ?_) (fun cdv A outer s H vs Q E hr h => ?_)
  · obtain ⟨p, dx, C, vr, va, vg, vi, ed, _, _, _, _, _, rfl, _⟩ := h
    rfl
  · obtain ⟨p, dx, C, vr, va, vg, vi, ed, bi, oa, os, orows, H0, rfl, ⟨cc, cn⟩, hp, H0p, S0, fd, ta, tg, tw, rw_, ke, kq⟩ := h
    obtain ⟨t1, mMOST_ASKS⟩ := T.m_MOST_ASKS
    obtain ⟨t2, mMOST_SIGNALS⟩ := T.m_MOST_SIGNALS
    obtain ⟨t3, mMOST_INPUTS⟩ := T.m_MOST_INPUTS
    have sv0 : Sv H H p := fun b o hb _ => hb
    have freeS : ∀ {G : Hp} {b : Addr}, Sv H G p → G p ≠ none → G b = none → H b = none := fun {G b} sv np n => by
      cases q : H b with
      | none => rfl
      | some o => rw [sv b o q (fun z => np (z ▸ n))] at n; cases n
    have base0 : ∀ {H' : Hp}, Sv H H' p → Same H0 H' := fun sv b o e => sv b o (S0 b o e) (fun z => by rw [z, H0p] at e; cases e)
    have rf : ∀ {Hc : Hp} {C2 : Addr → Prop} {part : Str} {path : List Int}, Sv H Hc p → Hc p ≠ none → (∀ b, C2 b → b = p ∨ va = .ref b ∨ vg = .ref b ∨ H b = none) → outcome ed oa os bi d orows = some (part, path) → Refuses K C2 Hc part path E := fun {Hc C2 part path} sv np hC e dd t H' k nd hd2 ht => by
      refine ke part path e dd t H' (fun b o hb nb => ?_) ?_ hd2 ht
      · refine k b o (sv b o hb (fun z => nb (.inl z))) (fun c => ?_)
        rcases hC b c with z | z | z | z
        · exact nb (.inl z)
        · exact nb (.inr (.inl z))
        · exact nb (.inr (.inr z))
        · rw [hb] at z; cases z
      · cases q : H dd with
        | none => rfl
        | some o =>
          by_cases z : dd = p
          · exact absurd (z ▸ nd) np
          · rw [sv dd o q z] at nd; cases nd
    refine ⟨_, (pss_cons (ps_fld (pv 0) (pe_fn G_checked_table (hr.mono (by omega)) (by rfl) (passes_call (W := fun c d _ H => E c d H) (takes_of rfl rfl rfl rfl) (fun _ _ _ _ h => h)) (pa_cons (pv 2) (pa_cons pe_str (pa_cons (pe_glob (by rfl) mMOST_ASKS (show RelV (.int (6)) _ from ⟨_, rfl⟩)) pa_nil)))) rfl)
      (pss_cons (ps_fld (pv 0) (pe_fn G_checked_table (hr.mono (by omega)) (by rfl) (passes_call (W := fun c d _ H => E c d H) (takes_of rfl rfl rfl rfl) (fun _ _ _ _ h => h)) (pa_cons (pv 3) (pa_cons pe_str (pa_cons (pe_glob (by rfl) mMOST_SIGNALS (show RelV (.int (3)) _ from ⟨_, rfl⟩)) pa_nil)))) rfl)
      (pss_cons (ps_if (pt_not (pt_val (pe_fn G_are_words (hr.mono (by omega)) (by rfl) pass0 (pa_cons (pv 4) (pa_cons (pe_glob (by rfl) mMOST_INPUTS (show RelV (.int (3)) _ from ⟨_, rfl⟩)) pa_nil))))) (pss_one (ps_raise rfl (takes_of rfl rfl rfl rfl) (pmk_errL E_InvalidProgram (hr.mono (by omega)) (by rfl) pass0 (pa_cons pe_str (pa_cons (pe_tup pa_nil) pa_nil))))) pss_nil)
      (pss_cons (ps_fld (pv 0) (pv 4) rfl)
      (pss_cons (ps_expr (pe_mth M_check_rows (hr.mono (by omega)) (passes_call (W := fun c d _ H => E c d H) (takes_of rfl rfl rfl rfl) (fun _ _ _ _ h => h)) (pe_mkA K_RowCheck (hr.mono (by omega)) (by rfl) pass0 (pa_cons (pe_fld (pv 0) rfl) (pa_cons (pe_fld (pv 0) rfl) (pa_cons (pv 5) pa_nil)))) (pa_cons (pv 1) pa_nil)))
      (pss_cons (ps_fld (pv 0) (pe_fn G_copied (hr.mono (by omega)) (by rfl) pass0 (pa_cons (pv 1) pa_nil)) rfl)
      (pss_cons (ps_fld (pv 0) (pe_mkA K_Plan (hr.mono (by omega)) (by rfl) pass0 (pa_cons (pe_fld (pv 0) rfl) pa_nil)) rfl)
      (pss_cons (ps_fld (pv 0) (pe_fn G_named_in (hr.mono (by omega)) (by rfl) pass0 (pa_cons (pe_fld (pe_fld (pv 0) rfl) rfl) pa_nil)) rfl)
      (pss_one (ps_expr (pe_fn G_check_sizes (hr.mono (by omega)) (by rfl) (passes_call (W := fun c d _ H => E c d H) (takes_of rfl rfl rfl rfl) (fun _ _ _ _ h => h)) (pa_cons (pe_fld (pv 0) rfl) (pa_cons (pe_fld (pv 0) rfl) pa_nil))))))))))))), ?_⟩
    -- asks
    refine ⟨_, rfl, ?_⟩
    dsimp only [tCons, tC, tNil, List.append_nil]
    refine tab_call ta S0 (fun ka eka H1 d1 S1 n1 hd1 => ?_) (fun e => rf sv0 (by rw [hp]; simp) (fun b z => .inr (.inl z)) (by rw [e]; rfl))
    subst eka
    have p1 : p ≠ d1 := ne_of_none hp n1
    refine ⟨_, rfl, p, _, dx, _, rfl, S1 _ _ hp, cc, cn _ (by simp), (by show 0 < 1000; decide), ?_⟩
    have sv1 := (sv0.same S1).own (u := .ins C dx (putF "ask_table" (.ref d1) []))
    have hp1 : upd H1 p (.ins C dx (putF "ask_table" (.ref d1) [])) p = some (.ins C dx [("ask_table", .ref d1)]) := upd_same
    have hd1' : upd H1 p (.ins C dx (putF "ask_table" (.ref d1) [])) d1 = some (.dK ka) := by rw [upd_ne p1.symm]; exact hd1
    have Hd1 : H d1 = none := n1
    generalize upd H1 p (.ins C dx (putF "ask_table" (.ref d1) [])) = G1 at sv1 hp1 hd1' ⊢
    -- signals
    refine ⟨_, rfl, ?_⟩
    dsimp only [tCons, tC, tNil, List.append_nil]
    refine tab_call tg (base0 sv1) (fun ks eks H2 d2 S2 n2 hd2 => ?_) (fun e => rf sv1 (by rw [hp1]; simp) (fun b z => .inr (.inr (.inl z))) (by rw [e]; rfl))
    subst eks
    have p2 : p ≠ d2 := ne_of_none hp1 n2
    have Hd2 : H d2 = none := freeS sv1 (by rw [hp1]; simp) n2
    have d12 : d1 ≠ d2 := ne_of_none hd1' n2
    refine ⟨_, rfl, p, _, dx, _, rfl, S2 _ _ hp1, cc, cn _ (by simp), (by show 1 < 1000; decide), ?_⟩
    have sv2 := (sv1.same S2).own (u := .ins C dx (putF "signal_table" (.ref d2) [("ask_table", .ref d1)]))
    have hp2 : upd H2 p (.ins C dx (putF "signal_table" (.ref d2) [("ask_table", .ref d1)])) p = some (.ins C dx [("ask_table", .ref d1), ("signal_table", .ref d2)]) := upd_same
    have hd2' : upd H2 p (.ins C dx (putF "signal_table" (.ref d2) [("ask_table", .ref d1)])) d2 = some (.dK ks) := by rw [upd_ne p2.symm]; exact hd2
    have hd12 : upd H2 p (.ins C dx (putF "signal_table" (.ref d2) [("ask_table", .ref d1)])) d1 = some (.dK ka) := by rw [upd_ne p1.symm]; exact S2 _ _ hd1'
    generalize upd H2 p (.ins C dx (putF "signal_table" (.ref d2) [("ask_table", .ref d1)])) = G2 at sv2 hp2 hd2' hd12 ⊢
    -- inputs
    refine ⟨_, rfl, vi, 3, rfl, ?_⟩
    rcases words_alt (tw _ (base0 sv2)) with ⟨wa, ws, ev, hw, zw, fw, eb⟩ | ⟨hnw, rfl⟩
    rotate_left
    · refine .inr ⟨hnw, _, rfl, ?_⟩
      refine iteT ?_
      refine ⟨by show 0 ≤ sizeLine; decide, fun t nt => ⟨rfl, ?_⟩⟩
      exact refused0 (C := fun _ => False) (path := []) (Kp.of (Same.new nt)) (fun d0 n => (Same.new nt).free n) (SqT.of upd_same) (rf sv2 (by rw [hp2]; simp) (fun b z => z.elim) rfl)
    refine .inl ⟨wa, ws, ev, hw, zw, fw, fun H3 S3 => ?_⟩
    rw [eb]
    have hp3 := S3 _ _ hp2
    have sv3 := sv2.same S3
    refine ⟨_, rfl, ?_⟩
    cases bi with
    | false =>
      refine iteT ?_
      refine ⟨by show 0 ≤ sizeLine; decide, fun t nt => ⟨rfl, ?_⟩⟩
      exact refused0 (C := fun _ => False) (path := []) (Kp.of (Same.new nt)) (fun d0 n => (Same.new nt).free n) (SqT.of upd_same) (rf sv3 (by rw [hp3]; simp) (fun b z => z.elim) rfl)
    | true =>
    refine iteF ?_
    refine ⟨_, rfl, _, rfl, p, _, dx, _, rfl, hp3, cc, cn _ (by simp), (by show 2 < 1000; decide), ?_⟩
    have sv4 := sv3.own (u := .ins C dx (putF "input_words" vi [("ask_table", .ref d1), ("signal_table", .ref d2)]))
    have hp4 : upd H3 p (.ins C dx (putF "input_words" vi [("ask_table", .ref d1), ("signal_table", .ref d2)])) p = some (.ins C dx [("ask_table", .ref d1), ("signal_table", .ref d2), ("input_words", vi)]) := upd_same
    have hd14 : upd H3 p (.ins C dx (putF "input_words" vi [("ask_table", .ref d1), ("signal_table", .ref d2)])) d1 = some (.dK ka) := by rw [upd_ne p1.symm]; exact S3 _ _ hd12
    have hd24 : upd H3 p (.ins C dx (putF "input_words" vi [("ask_table", .ref d1), ("signal_table", .ref d2)])) d2 = some (.dK ks) := by rw [upd_ne p2.symm]; exact S3 _ _ hd2'
    generalize upd H3 p (.ins C dx (putF "input_words" vi [("ask_table", .ref d1), ("signal_table", .ref d2)])) = G4 at sv4 hp4 hd14 hd24 ⊢
    have fresh : ∀ {b : Addr}, G4 b = none → H b = none := fun {b} n => by
      cases q : H b with
      | none => rfl
      | some o =>
        by_cases z : b = p
        · rw [z, hp4] at n; cases n
        · rw [sv4 b o q z] at n; cases n
    -- the rows are checked
    refine ⟨_, rfl, p, _, dx, _, .ref d1, rfl, hp4, cc, cn _ (by simp), rfl, _, rfl, p, _, dx, _, .ref d2, rfl, hp4, cc, cn _ (by simp), rfl, _, rfl, fun x y nx ny nxy => ?_⟩
    have SX : Same G4 (upd (upd G4 y (.own x)) x (.ins (He.ga K "RowCheck") y [])) := by
      intro b o hb
      rw [upd_ne (ne_of_none hb nx), upd_ne (ne_of_none hb ny)]
      exact hb
    refine ⟨x, y, d1, d2, ed, rfl, upd_same, fun G5 e g k5 hx5 he5 hg5 eg5 ne5 ng5 => ⟨rfl, ?_⟩⟩
    have xG : ∀ {b : Addr} {o : HO}, G4 b = some o → b ≠ x := fun h => ne_of_none h nx
    have S5 : Same G4 G5 := fun b o hb => k5 b o (SX b o hb) (xG hb)
    have gfree : ∀ {b : Addr}, (upd (upd G4 y (.own x)) x (.ins (He.ga K "RowCheck") y [])) b = none → G4 b = none := fun n => SX.free n
    have ne4 := gfree ne5
    have ng4 := gfree ng5
    have rc5 : RC K G5 x ed ka ks ([], []) d1 d2 e g y := ⟨hx5, S5 _ _ hd14, S5 _ _ hd24, he5, hg5, eg5, ne_of_none hd14 ne4, ne_of_none hd14 ng4, ne_of_none hd24 ne4, ne_of_none hd24 ng4⟩
    have S05 : Same H0 G5 := (base0 sv4).trans S5
    have H0e : H0 e = none := (base0 sv4).free ne4
    have H0g : H0 g = none := (base0 sv4).free ng4
    have hp5 := S5 _ _ hp4
    refine ⟨x, y, _, rfl, hx5, rfl, _, rfl, ?_⟩
    refine ⟨x, vr, ed, ka, ks, ([], []), d1, d2, e, g, y, rfl, rc5, ?_⟩
    have rfe : ∀ {part : Str} {path : List Int}, outcome ed (some ka) (some ks) true d orows = some (part, path) → Refuses K (fun b => b = e ∨ b = g) G5 part path E := fun h => rf (sv4.same S5) (by rw [hp5]; simp) (fun b z => by
      rcases z with z | z
      · rw [z]; exact .inr (.inr (.inr (fresh ne4)))
      · rw [z]; exact .inr (.inr (.inr (fresh ng4)))) h
    cases rw_ with
    | bad h => exact .inl ⟨h _ S05, rfe rfl⟩
    | good hr0 ha0 prr lr few names =>
    rename_i r xs rows
    have eout : outcome ed (some ka) (some ks) true d (some rows) = (match (chk ed ka ks d false rows [] ([], [])).1 with
          | some path => some ("rows", path)
          | none => (fault4 (lsz d rows) (labelsN d rows) (slotsN d rows) (gatesN d rows)).map fun part => (part, [])) := rfl
    refine .inr ⟨r, H0, rows, xs, rfl, hr0, S05, H0e, H0g, ha0, prr, fd, by show 0 + lsz d rows ≤ 3000; omega, fun hn H6 k6 rc6 => ?_, fun path hpth => rfe (by rw [eout, hpth])⟩
    rw [hn] at eout
    have shape := chk_shape ed ka ks d false rows [] ([], []) hn prr
    have S46 : Same G4 H6 := fun b o hb => k6 b o (S5 _ _ hb) (by
      rintro (z | z)
      · rw [z, ne4] at hb; cases hb
      · rw [z, ng4] at hb; cases hb)
    have sv6 := sv4.same S46
    have hp6 := S46 _ _ hp4
    have S06 := base0 sv6
    -- copied
    refine ⟨_, rfl, r, H0, rows, xs, rfl, hr0, S06, ha0, lr, shape, fun H7 l1 ys S7 m1 hl1 hys => ?_⟩
    have q1 : p ≠ l1 := ne_of_none hp6 m1
    have hp7' := S7 _ _ hp6
    refine ⟨_, rfl, p, _, dx, _, rfl, hp7', cc, cn _ (by simp), (by show 3 < 1000; decide), ?_⟩
    have HnS : ∀ {b : Addr} {o : HO}, res (NL H6) H7 b = some o → H7 b = some o ∧ b ≠ p := fun {b o} h => by
      obtain ⟨c, e⟩ := res_some h
      refine ⟨e, fun z => ?_⟩
      subst z
      exact c.no hp6 rfl
    have HnO : ∀ {b : Addr} {o : HO}, res (NL H6) H7 b = some o → Own H p b := fun {b o} h => .inl (nl_of sv6 (res_some h).1 (HnS h).2)
    have Hnp : res (NL H6) H7 p = none := by
      cases q : res (NL H6) H7 p with
      | none => rfl
      | some o => exact absurd rfl (HnS q).2
    have sv7 := (sv6.same S7).own (u := .ins C dx (putF "row_list" (.ref l1) [("ask_table", .ref d1), ("signal_table", .ref d2), ("input_words", vi)]))
    have hp7 : upd H7 p (.ins C dx (putF "row_list" (.ref l1) [("ask_table", .ref d1), ("signal_table", .ref d2), ("input_words", vi)])) p = some (.ins C dx [("ask_table", .ref d1), ("signal_table", .ref d2), ("input_words", vi), ("row_list", .ref l1)]) := upd_same
    have Sn7 : Same (res (NL H6) H7) (upd H7 p (.ins C dx (putF "row_list" (.ref l1) [("ask_table", .ref d1), ("signal_table", .ref d2), ("input_words", vi)]))) := fun b o h => by rw [upd_ne (HnS h).2]; exact (HnS h).1
    have Hnl : res (NL H6) H7 l1 = some (.lst ys) := by rw [res_of (S := NL H6) (NL.new m1)]; exact hl1
    have k17 : ∀ (b : Addr) (o : HO), b ≠ p → H7 b = some o → upd H7 p (.ins C dx (putF "row_list" (.ref l1) [("ask_table", .ref d1), ("signal_table", .ref d2), ("input_words", vi)])) b = some o := fun b o n h => by rw [upd_ne n]; exact h
    generalize res (NL H6) H7 = Hn at HnS HnO Hnp Sn7 Hnl hys
    generalize upd H7 p (.ins C dx (putF "row_list" (.ref l1) [("ask_table", .ref d1), ("signal_table", .ref d2), ("input_words", vi)])) = G7 at sv7 hp7 Sn7 k17 ⊢
    have h17 : G7 d1 = some (.dK ka) := k17 d1 _ p1.symm (S7 _ _ (S46 _ _ hd14))
    have h27 : G7 d2 = some (.dK ks) := k17 d2 _ p2.symm (S7 _ _ (S46 _ _ hd24))
    -- the plan
    refine ⟨_, rfl, p, _, dx, _, .ref l1, rfl, hp7, cc, cn _ (by simp), rfl, fun x2 y2 nx2 ny2 nxy2 => ?_⟩
    have SX2 : Same G7 (upd (upd G7 y2 (.own x2)) x2 (.ins (He.ga K "Plan") y2 [])) := by
      intro b o hb
      rw [upd_ne (ne_of_none hb nx2), upd_ne (ne_of_none hb ny2)]
      exact hb
    have SvX : Sv H (upd (upd G7 y2 (.own x2)) x2 (.ins (He.ga K "Plan") y2 [])) p := sv7.same SX2
    have hpX := SX2 _ _ hp7
    have fx2 : H x2 = none := by
      cases q : H x2 with
      | none => rfl
      | some o => rw [sv7 x2 o q (fun z => by rw [z, hp7] at nx2; cases nx2)] at nx2; cases nx2
    refine ⟨x2, y2, l1, Hn, rows, ys, rfl, upd_same, Sn7.free nx2, Hnl, hys, Sn7.trans SX2, shape, fd, by omega, fun G8 sv8 po => ⟨rfl, ?_⟩⟩
    generalize upd (upd G7 y2 (.own x2)) x2 (.ins (He.ga K "Plan") y2 []) = GX at SX2 sv8 po SvX hpX
    have S8 : Same G7 G8 := fun b o hb => sv8 b o (SX2 b o hb) (ne_of_none hb nx2)
    have hp8 := S8 _ _ hp7
    refine ⟨_, rfl, p, _, dx, _, rfl, hp8, cc, cn _ (by simp), (by show 4 < 1000; decide), ?_⟩
    have xp : x2 ≠ p := (ne_of_none hp7 nx2).symm
    have SW : ∀ {Gf : Hp}, Sv G8 Gf p → Same (res (Own GX x2) G8) (res (Own H p) Gf) := fun {Gf} svf => same_res fun b o ob e => by
      rcases ob with nl | rfl
      · have bp : b ≠ p := fun z => by subst z; exact nl.no hpX rfl
        exact ⟨.inl (nl_of SvX nl bp), svf _ _ e bp⟩
      · exact ⟨.inl (NL.new fx2), svf _ _ e xp⟩
    have sv9 := (sv7.same S8).own (u := .ins C dx (putF "plan" (.ref x2) [("ask_table", .ref d1), ("signal_table", .ref d2), ("input_words", vi), ("row_list", .ref l1)]))
    have hp9 : upd G8 p (.ins C dx (putF "plan" (.ref x2) [("ask_table", .ref d1), ("signal_table", .ref d2), ("input_words", vi), ("row_list", .ref l1)])) p = some (.ins C dx [("ask_table", .ref d1), ("signal_table", .ref d2), ("input_words", vi), ("row_list", .ref l1), ("plan", .ref x2)]) := upd_same
    have other9 : ∀ {b : Addr} {o : HO}, G8 b = some o → b ≠ p → upd G8 p (.ins C dx (putF "plan" (.ref x2) [("ask_table", .ref d1), ("signal_table", .ref d2), ("input_words", vi), ("row_list", .ref l1)])) b = some o := fun h n => by rw [upd_ne n]; exact h
    have sv89 : Sv G8 (upd G8 p (.ins C dx (putF "plan" (.ref x2) [("ask_table", .ref d1), ("signal_table", .ref d2), ("input_words", vi), ("row_list", .ref l1)]))) p := Sv.own fun b o e _ => e
    obtain ⟨a1, a2, a3, a4, a5, a6, a7, F, pa, ce, cs, pat⟩ := id po
    have hx8 := (res_some pat.ob).2
    have hx9 := other9 hx8 xp
    have hf8 := (res_some pat.h1).2
    have hf9 := other9 hf8 (ne_of hf8 hp8 (by intro z; cases z))
    have Sn9 : Same Hn (upd G8 p (.ins C dx (putF "plan" (.ref x2) [("ask_table", .ref d1), ("signal_table", .ref d2), ("input_words", vi), ("row_list", .ref l1)]))) := fun b o h => other9 (S8 _ _ (Sn7 _ _ h)) (fun z => by rw [z, Hnp] at h; cases h)
    generalize upd G8 p (.ins C dx (putF "plan" (.ref x2) [("ask_table", .ref d1), ("signal_table", .ref d2), ("input_words", vi), ("row_list", .ref l1)])) = G9 at sv9 hp9 hx9 hf9 Sn9 sv89 ⊢
    -- the names
    have fok := flatL_ok shape
    have efl : (planOf d rows).fl = flatL d rows := by
      have g := (grew_layL d rows shape [] (-2) (-2) ⟨[], [], [], [], [], [if rows.length = 0 then -2 else 0]⟩ ⟨rfl, rfl, rfl, rfl⟩).f
      exact g
    refine ⟨_, rfl, p, _, dx, _, .ref x2, rfl, hp9, cc, cn _ (by simp), rfl, x2, _, y2, _, .ref a1, rfl, hx9, T.c_Plan, T.n_Plan_flat, rfl, a1, F, Hn, flatL d rows, rfl, hf9, efl ▸ pat.fl, Sn9, fok, names, fun GA nt na nb nc ls ss gs SA hnt nt0 hna hnb hnc pm1 pm2 pm3 so f1 f2 f3 => ?_⟩
    have hpA := SA _ _ hp9
    refine ⟨_, rfl, p, _, dx, _, rfl, hpA, cc, cn _ (by simp), (by show 5 < 1000; decide), ?_⟩
    have svB := (sv9.same SA).own (u := .ins C dx (putF "name_table" (.ref nt) [("ask_table", .ref d1), ("signal_table", .ref d2), ("input_words", vi), ("row_list", .ref l1), ("plan", .ref x2)]))
    have hpB : upd GA p (.ins C dx (putF "name_table" (.ref nt) [("ask_table", .ref d1), ("signal_table", .ref d2), ("input_words", vi), ("row_list", .ref l1), ("plan", .ref x2)])) p = some (.ins C dx (draftF d1 d2 vi l1 x2 nt)) := upd_same
    have other : ∀ {b : Addr} {o : HO}, GA b = some o → b ≠ p → upd GA p (.ins C dx (putF "name_table" (.ref nt) [("ask_table", .ref d1), ("signal_table", .ref d2), ("input_words", vi), ("row_list", .ref l1), ("plan", .ref x2)])) b = some o := fun h n => by rw [upd_ne n]; exact h
    have ln : ∀ {b : Addr} {zs : List V}, GA b = some (.lst zs) → b ≠ p := fun h => ne_of h hpA (by intro z; cases z)
    have hxB := other (SA _ _ hx9) xp
    have hfB := other (SA _ _ hf9) (ne_of hf9 hp9 (by intro z; cases z))
    have hntB := other hnt (ne_of hnt hpA (by intro z; cases z))
    have hnaB := other hna (ln hna)
    have hnbB := other hnb (ln hnb)
    have hncB := other hnc (ln hnc)
    have SnB : Same Hn (upd GA p (.ins C dx (putF "name_table" (.ref nt) [("ask_table", .ref d1), ("signal_table", .ref d2), ("input_words", vi), ("row_list", .ref l1), ("plan", .ref x2)]))) := fun b o h => other (SA _ _ (Sn9 _ _ h)) (fun z => by rw [z, Hnp] at h; cases h)
    have SvAB : Sv G9 (upd GA p (.ins C dx (putF "name_table" (.ref nt) [("ask_table", .ref d1), ("signal_table", .ref d2), ("input_words", vi), ("row_list", .ref l1), ("plan", .ref x2)]))) p := Sv.own fun b o e _ => SA b o e
    generalize upd GA p (.ins C dx (putF "name_table" (.ref nt) [("ask_table", .ref d1), ("signal_table", .ref d2), ("input_words", vi), ("row_list", .ref l1), ("plan", .ref x2)])) = GB at svB hpB hxB hfB hntB hnaB hnbB hncB SnB SvAB ⊢
    have SnO : Same Hn (res (Own H p) GB) := fun b o h => by rw [res_of (S := Own H p) (HnO h)]; exact SnB b o h
    have e1 : F.length = lsz d rows := by rw [← flatL_len, ← efl]; exact pat.fl.len.symm
    have e2 : (ls.map V.str).length = labelsN d rows := by rw [List.length_map, pm1.length_eq]; rfl
    have e3 : ((ss.filter fun z : Str => decide (z ≠ "in")).map V.str).length = slotsN d rows := by rw [List.length_map, (pm2.filter _).length_eq]; rfl
    have e4 : (gs.map V.str).length = gatesN d rows := by rw [List.length_map, pm3.length_eq]; rfl
    refine ⟨_, rfl, p, _, dx, _, .ref x2, rfl, hpB, cc, cn _ (by simp), rfl, _, rfl, p, _, dx, _, .ref nt, rfl, hpB, cc, cn _ (by simp), rfl, ?_⟩
    refine ⟨x2, y2, nt, a1, na, nb, nc, F, _, _, _, _, rfl, hxB, hfB, hntB, hnaB, hnbB, hncB, fun fn => ?_, fun part fpt => ?_⟩
    · rw [e1, e2, e3, e4] at fn
      refine kq (by rw [eout, fn]; rfl) ka ks rows rfl rfl rfl GB svB ⟨d1, d2, l1, x2, nt, y2, ys, ?_, ?_, ?_, ?_, ?_, shape, po.both ?_ ?_, na, nb, nc, ls, ss, gs, ?_, ?_, ?_, ?_, pm1, pm2, pm3, so⟩
      · rw [res_of (S := Own H p) (.inr rfl)]; exact hpB
      · rw [res_of (S := Own H p) (.inl (NL.new Hd1))]; exact SvAB _ _ (sv89 _ _ (S8 _ _ h17) p1.symm) p1.symm
      · rw [res_of (S := Own H p) (.inl (NL.new Hd2))]; exact SvAB _ _ (sv89 _ _ (S8 _ _ h27) p2.symm) p2.symm
      · exact SnO _ _ Hnl
      · exact hys.imp fun _ _ _ q => q.mono SnO
      · exact SnO
      · exact SW fun b o e nb => SvAB b o (sv89 b o e nb) nb
      · rw [res_of (S := Own H p) (.inl (NL.new (freeS sv9 (by rw [hp9]; simp) nt0)))]; exact hntB
      · rw [res_of (S := Own H p) (.inl (NL.new (freeS sv9 (by rw [hp9]; simp) f1)))]; exact hnaB
      · rw [res_of (S := Own H p) (.inl (NL.new (freeS sv9 (by rw [hp9]; simp) f2)))]; exact hnbB
      · rw [res_of (S := Own H p) (.inl (NL.new (freeS sv9 (by rw [hp9]; simp) f3)))]; exact hncB
    · rw [e1, e2, e3, e4] at fpt
      exact rf svB (by rw [hpB]; simp) (fun b z => z.elim) (by rw [eout, fpt]; rfl)
end
end OR

set_option Elab.async false
set_option maxRecDepth 100000
set_option maxHeartbeats 8000000
set_option linter.all false
namespace L2
open PySem PySem.Spec PyProof.Rows
section
variable {X : Cx} {CX : CXT} {k n : Nat} {f C : Addr} {fd : FuncData} {ps ks : List Str} {sp : Sp} {E : St → XK} {x : Str} {p pos : Pos} {e : Expr} {es : List Expr} {kws : List Keyword} {t tk : TA} {g : List Value → List Value → List Value} {gV : List V → List V → List V}
/-- C(e, .., k = v, ..) that may raise: the caller's wish at its slots -/
def tMakeKS (C : Addr) (n m : Nat) (sp : Sp) (gV : List V → List V → List V) (E : St → XK) (t tk : TA) : TE := fun σ H Q => t σ H fun vs H1 => tk σ H1 fun zs H2 => vs.length = n ∧ zs.length = m ∧ ∀ x dx, H2 x = none → H2 dx = none → dx ≠ x →
  sp (gV (.ref x :: vs) zs) (upd (upd H2 dx (.own x)) x (.ins C dx [])) (fun v H3 => v = .non ∧ Q (.ref x) H3) (E σ)
theorem pe_makeKS (M : Mk X.K C f) (F : FnOk X.prog X.w X.K X.mg X.base CX k f fd ps sp) (hr : Room (k + 1) X.A) (hg : Gl X x) (hm : X.mg x = some (.ref C)) (hb : KBn X.K fd ps (n + 1) ks g gV) (hx : ∀ σ, PassesAt CX X σ (E σ)) (ha : PA X (e :: es) t) (hkw : PK X kws tk)
    (hall : (backToKw pos (keywordEach kws X.env)).all (·.1.isSome) = true := by rfl) (hks : (backToKw pos (keywordEach kws X.env)).filterMap (·.1) = ks := by rfl) (hdb : (x == ("__debug__" : Str)) = false := by decide)
    (he : starEach (e :: es) X.env = (false, eval e X.env) :: starEach es X.env := by rfl) (hpl : ((backTo pos (starEach (e :: es) X.env)).any (·.1) || (backToKw pos (keywordEach kws X.env)).any (·.1.isNone)) = false := by rfl) :
    PE X (.Call (.Name x p) (e :: es) kws pos) (tMakeKS C n ks.length sp gV E t tk) := by
  refine ⟨fun pins s σ H Q I h => ?_⟩
  refine wpAny_Call_Name_kw (ld_glob I hg hm ?_ hdb)
  refine PySem.W.callWith_KW (h₀ := X.base) I.ok.mod.kin M.kp hall (thn (ha.run pos pins s σ H _ I h) fun us s1 ⟨vs, H1, I1, r, q⟩ => ?_) hpl he
  refine thn (hkw.run pos pins s1 σ H1 _ I1 q) fun ws s2 ⟨zs, H2, I2, rz, l1, l2, q2⟩ => ⟨I2.kIn, ?_⟩
  rw [hks]
  have hq := q2 (s2.heap.objs.size + 1) s2.heap.objs.size (I2.hok.fresh (Nat.le_succ _)) (I2.hok.fresh (Nat.le_refl _)) (Nat.ne_of_lt (Nat.lt_succ_self _))
  have I3 := Inv.made (C := C) I2
  have r1 : Vals (V.ref (s2.heap.objs.size + 1) :: vs) (Value.ref (s2.heap.objs.size + 1) :: us) := .cons rfl r
  have r2 := hb.rel r1 rz
  have n1 : (Value.ref (s2.heap.objs.size + 1) :: us).length = n + 1 := by rw [List.length_cons, ← r.length, l1]
  refine wpAny_call (make_map (f := f) I2.kIn M.makes M.init (beq_iff_eq.mp M.fn) (codeAny_mono (F.run _ X.stack _ _ ⟨Value.ref (s2.heap.objs.size + 1) :: us, ks.zip ws⟩ (g (Value.ref (s2.heap.objs.size + 1) :: us) ws) _ _ (E σ) (hr.make C us (ks.zip ws))
    (I3.env0.make C us (ks.zip ws)) (hb.to _ (Value.ref (s2.heap.objs.size + 1) :: us) ws I3.kIn n1 (rz.length.symm.trans l2)) r2 hq) fun r s' hq' => ?_))
  cases r with
  | error er => exact hx σ pins _ _ er s' I3 hq'
  | ok fl =>
    cases fl with
    | ret u =>
      obtain ⟨v, H', I4, rv, ev, q3⟩ := I3.after hq'
      subst ev
      exact ⟨rv, ⟨V.ref (s2.heap.objs.size + 1), H', I4, rfl, q3⟩⟩
    | next => exact False.elim hq'
    | brk => exact False.elim hq'
    | cont => exact False.elim hq'
end
end L2
namespace OR
open PySem PySem.Spec PyProof.Rows L2 TS2
structure DArgs (K : PySem.W.Frag) (H0 : Hp) (d : Nat) (vr va vg vi : V) (oa os : Option (List (Key × V))) (bi : Bool) (orows : Option (List (Row d))) : Prop where
  a : TabArg K H0 "asks" 6 va oa
  s : TabArg K H0 "signals" 3 vg os
  i : ∀ H', Same H0 H' → WordsIs K H' 3 vi bi
  r : RowsArg K H0 d vr orows
def spProgInit (K : PySem.W.Frag) (d : Nat) : Sp := fun vs H Q E => ∃ (p dx : Addr) (vr va vg vi : V) (bi : Bool) (oa os : Option (List (Key × V))) (orows : Option (List (Row d))) (H0 : Hp), vs = [.ref p, vr, va, vg, vi] ∧ H p = some (.ins (He.ga K "Program") dx []) ∧ H0 p = none ∧ Same H0 H ∧ d ≤ 40 ∧ DArgs K H0 d vr va vg vi oa os bi orows ∧
  (∀ part path, outcome false oa os bi d orows = some (part, path) → Refuses K (fun b => b = p ∨ va = .ref b ∨ vg = .ref b) H part path E) ∧ (outcome false oa os bi d orows = none → ∀ (ka ks : List (Key × V)) (rows : List (Row d)), oa = some ka → os = some ks → orows = some rows → ∀ (H' : Hp), Sv H H' p → DraftOk K (res (Own H p) H') p dx (He.ga K "Program") ka ks vi d rows → Q .non H')
section
variable {P : Program} {w : World} {K : PySem.W.Frag} {mg : Str → Option Value} {base : Heap}
theorem ok_program {k0 d : Nat} {f : Addr} {fd : FuncData} {kws : List (Str × V)} (F : FunD K "__init__" "Program.__init__" (defArgs s_Program___init__) (defBody s_Program___init__) (defScope s_Program___init__) [] kws f fd) (T : Tx w K mg) (dc : DCls K (He.ga K "Program"))
    (C_Draft : CFun P w K mg base (L2.CX P w) k0 "Draft" (He.ga K "Draft") "__init__" p_Draft___init__ (spDraft K d)) : FnOk P w K mg base (L2.CX P w) (k0 + 1) f fd p_Program___init__ (spProgInit K d) := by
  refine F.ok sc_Program___init__ (fun vs H Q E h => ?_) (fun cdv A outer s H vs Q E hr h => ?_)
  · obtain ⟨p, dx, vr, va, vg, vi, _, _, _, _, _, rfl, _⟩ := h
    rfl
  · obtain ⟨p, dx, vr, va, vg, vi, bi, oa, os, orows, H0, rfl, hp, H0p, S0, fd', ar, ke, kq⟩ := h
    refine ⟨_, (pss_one (ps_expr (pe_cfun C_Draft (hr.mono (by omega)) (by rfl) (passes_call (W := fun c d _ H => E c d H) (takes_of rfl rfl rfl rfl) (fun _ _ _ _ h => h)) (pa_cons (pv 0) (pa_cons (pv 1) (pa_cons (pv 2) (pa_cons (pv 3) (pa_cons (pv 4) (pa_cons pe_bl pa_nil))))))))), ?_⟩
    exact ⟨_, rfl, _, rfl, _, rfl, _, rfl, _, rfl, p, dx, _, vr, va, vg, vi, false, bi, oa, os, orows, H0, rfl, dc, hp, H0p, S0, fd', ar.a, ar.s, ar.i, ar.r, ke, kq⟩
end
end OR

set_option Elab.async false
set_option maxRecDepth 100000
set_option maxHeartbeats 4000000
set_option linter.all false
namespace OR
open PySem PySem.Spec PyProof.Rows L2 TS2
/-! ### the paths of rows -/
def pK {R : Type} (f : List R → List Int → List (List Int)) (path : List Int) : List (List R) → Nat → List (List Int)
  | [], _ => []
  | l :: ls, j => f l (path ++ [(j : Int)]) ++ pK f path ls (j + 1)
def pS {R : Type} (g : R → List Int → List (List Int)) (pre : List Int) : List R → Nat → List (List Int)
  | [], _ => []
  | r :: rs, i => g r (pre ++ [(i : Int)]) ++ pS g pre rs (i + 1)
def pathsR : (d : Nat) → Row d → List Int → List (List Int)
  | 0, r, _ => nomatch r
  | d + 1, r, path => path :: pK (fun l pre => pS (pathsR d) pre l 0) path (kids r.2) 0
def pathsL (d : Nat) (rows : List (Row d)) (pre : List Int) : List (List Int) := pS (pathsR d) pre rows 0
theorem first_pl (P : PM) (w : Str) (here : Nat) (x : Int) : (P.first w here x).pl = P.pl := by
  unfold PM.first
  split <;> rfl
theorem pl_layK {R : Type} {f : List R → List Int → Int → Int → PM → PM} {g : List R → List Int → List (List Int)} {w : Str} {here : Nat} {path : List Int} {b ex : Int} : ∀ (ls : List (List R)) (j : Nat) (P : PM), (∀ l ∈ ls, ∀ pre e x P, (f l pre e x P).pl = P.pl ++ g l pre) →
    (layK f w here path b ex ls j P).pl = P.pl ++ pK g path ls j
  | [], j, P, _ => by simp [layK, pK]
  | l :: ls, j, P, k => by
    unfold layK pK
    rw [pl_layK ls (j + 1) _ fun l' hl' => k l' (List.mem_cons_of_mem _ hl'), k l List.mem_cons_self, first_pl, List.append_assoc]
theorem pl_layS {R : Type} {f : R → List Int → Int → Int → PM → PM} {g : R → List Int → List (List Int)} {sz : R → Nat} {n : Nat} {pre : List Int} {e ex : Int} : ∀ (rs : List R) (i : Nat) (P : PM), (∀ r ∈ rs, ∀ path b x P, (f r path b x P).pl = P.pl ++ g r path) →
    (layS f sz n pre e ex rs i P).pl = P.pl ++ pS g pre rs i
  | [], i, P, _ => by simp [layS, pS]
  | r :: rs, i, P, k => by
    unfold layS pS
    rw [pl_layS rs (i + 1) _ fun l' hl' => k l' (List.mem_cons_of_mem _ hl'), k r List.mem_cons_self, List.append_assoc]
theorem pl_layR : ∀ (d : Nat) (r : Row d) (path : List Int) (b ex : Int) (P : PM), (layR d r path b ex P).pl = P.pl ++ pathsR d r path
  | 0, r, _, _, _, _ => nomatch r
  | d + 1, r, path, b, ex, P => by
    unfold layR pathsR
    rw [pl_layK (g := fun l pre => pS (pathsR d) pre l 0) (kids r.2) 0 _ fun l _ pre e x P => pl_layS l 0 P fun r' _ path b x P => pl_layR d r' path b x P]
    show (P.pl ++ [path]) ++ _ = _
    rw [List.append_assoc]
    rfl
theorem pl_plan (d : Nat) (rows : List (Row d)) : (planOf d rows).pl = pathsL d rows [] := by
  unfold planOf layL pathsL
  rw [pl_layS (g := pathsR d) rows 0 _ fun r _ path b x P => pl_layR d r path b x P]
  rfl
theorem fl_plan {d : Nat} {rows : List (Row d)} (sh : ∀ r ∈ rows, Shape d r) : (planOf d rows).fl = flatL d rows :=
  (grew_layL d rows sh [] (-2) (-2) ⟨[], [], [], [], [], [if rows.length = 0 then -2 else 0]⟩ ⟨rfl, rfl, rfl, rfl⟩).f
/-- the row at a path -/
def At : (d : Nat) → List (Row d) → List Int → AnyRow → Prop
  | 0, _, _, _ => False
  | _ + 1, _, [], _ => False
  | d + 1, rows, [i], x => ∃ r, rows[i.toNat]? = some r ∧ 0 ≤ i ∧ x = ⟨d, r⟩
  | d + 1, rows, i :: j :: rest, x => ∃ (r : Row (d + 1)) (l : List (Row d)), rows[i.toNat]? = some r ∧ 0 ≤ i ∧ (kids r.2)[j.toNat]? = some l ∧ 0 ≤ j ∧ At d l rest x
theorem all2_mono {α β : Type} {R R' : α → β → Prop} {xs : List α} {ys : List β} (h : All2 R xs ys) (f : ∀ x y, R x y → R' x y) : All2 R' xs ys := h.imp fun x y _ q => f x y q
theorem at_pK {R : Type} {S : List Int → AnyRow → Prop} {g : List R → List Int → List (List Int)} {fl : List R → List AnyRow} {path : List Int} : ∀ (ls : List (List R)) (j : Nat), (∀ (i : Nat) (l : List R), ls[i]? = some l → All2 (fun p x => ∃ q, p = (path ++ [((i + j : Nat) : Int)]) ++ q ∧ S (((i + j : Nat) : Int) :: q) x) (g l (path ++ [((i + j : Nat) : Int)])) (fl l)) →
    All2 (fun p x => ∃ q, p = path ++ q ∧ S q x) (pK g path ls j) ((ls.map fl).flatten)
  | [], j, _ => .nil
  | l :: ls, j, h => by
    unfold pK
    rw [List.map_cons, List.flatten_cons]
    have h0 := h 0 l rfl
    rw [show (0 + j : Nat) = j by omega] at h0
    refine (all2_mono h0 fun p x ⟨q, e, s⟩ => ⟨(j : Int) :: q, ?_, s⟩).app (at_pK ls (j + 1) fun i l' hi => ?_)
    · rw [e]; simp
    · have := h (i + 1) l' hi
      rw [show (i + 1 + j : Nat) = i + (j + 1) by omega] at this
      exact this
theorem at_pS {R : Type} {S : List Int → AnyRow → Prop} {g : R → List Int → List (List Int)} {fl : R → List AnyRow} {pre : List Int} : ∀ (rs : List R) (j : Nat), (∀ (i : Nat) (r : R), rs[i]? = some r → All2 (fun p x => ∃ q, p = (pre ++ [((i + j : Nat) : Int)]) ++ q ∧ S (((i + j : Nat) : Int) :: q) x) (g r (pre ++ [((i + j : Nat) : Int)])) (fl r)) →
    All2 (fun p x => ∃ q, p = pre ++ q ∧ S q x) (pS g pre rs j) ((rs.map fl).flatten)
  | [], j, _ => .nil
  | r :: rs, j, h => by
    unfold pS
    rw [List.map_cons, List.flatten_cons]
    have h0 := h 0 r rfl
    rw [show (0 + j : Nat) = j by omega] at h0
    refine (all2_mono h0 fun p x ⟨q, e, s⟩ => ⟨(j : Int) :: q, ?_, s⟩).app (at_pS rs (j + 1) fun i l' hi => ?_)
    · rw [e]; simp
    · have := h (i + 1) l' hi
      rw [show (i + 1 + j : Nat) = i + (j + 1) by omega] at this
      exact this
theorem at_L : ∀ (d : Nat) (rows : List (Row d)) (pre : List Int), All2 (fun p x => ∃ q, p = pre ++ q ∧ At d rows q x) (pathsL d rows pre) (flatL d rows)
  | 0, [], pre => .nil
  | 0, r :: _, _ => nomatch r
  | d + 1, rows, pre => by
    unfold pathsL flatL
    refine at_pS rows 0 fun i r hi => ?_
    show All2 _ (_ :: _) (_ :: _)
    refine .cons ⟨[], by simp, r, ?_, Int.natCast_nonneg _, rfl⟩ ?_
    · rw [Int.toNat_natCast]; exact hi
    · refine at_pK (S := fun q x => At (d + 1) rows (((i + 0 : Nat) : Int) :: q) x) (kids r.2) 0 fun j l hj => ?_
      refine all2_mono (at_L d l _) fun p x ⟨q, e, a⟩ => ⟨q, e, ?_⟩
      cases q with
      | nil => cases d <;> exact a.elim
      | cons y ys => exact ⟨r, l, by rw [Int.toNat_natCast]; exact hi, Int.natCast_nonneg _, by rw [Int.toNat_natCast]; exact hj, Int.natCast_nonneg _, a⟩
/-! ### they ascend -/
def lexL : List Int → List Int → Prop
  | [], [] => False
  | [], _ :: _ => True
  | _ :: _, [] => False
  | a :: s, b :: t => a < b ∨ (a = b ∧ lexL s t)
theorem lexL_pre : ∀ (p a b : List Int), lexL (p ++ a) (p ++ b) ↔ lexL a b
  | [], a, b => Iff.rfl
  | x :: p, a, b => by
    show (x < x ∨ (x = x ∧ lexL (p ++ a) (p ++ b))) ↔ _
    rw [lexL_pre p a b]
    constructor
    · rintro (h | ⟨_, h⟩)
      · omega
      · exact h
    · exact fun h => .inr ⟨rfl, h⟩
theorem lexL_irr : ∀ a : List Int, ¬ lexL a a
  | [], h => h
  | x :: a, h => by
    rcases h with h | ⟨_, h⟩
    · omega
    · exact lexL_irr a h
def Asc (l : List (List Int)) : Prop := l.Pairwise lexL
theorem pw_app {α : Type} {R : α → α → Prop} {a b : List α} (ha : a.Pairwise R) (hb : b.Pairwise R) (h : ∀ x ∈ a, ∀ y ∈ b, R x y) : (a ++ b).Pairwise R := List.pairwise_append.mpr ⟨ha, hb, h⟩
theorem asc_pK {R : Type} {g : List R → List Int → List (List Int)} {path : List Int} : ∀ (ls : List (List R)) (j : Nat), (∀ l ∈ ls, ∀ pre, Asc (g l pre) ∧ ∀ p ∈ g l pre, ∃ q, p = pre ++ q) → Asc (pK g path ls j) ∧ ∀ p ∈ pK g path ls j, ∃ (m : Nat) (q : List Int), j ≤ m ∧ p = path ++ ((m : Int) :: q)
  | [], j, _ => ⟨.nil, fun p hp => by simp [pK] at hp⟩
  | l :: ls, j, h => by
    unfold pK
    obtain ⟨a1, b1⟩ := h l List.mem_cons_self (path ++ [(j : Int)])
    obtain ⟨a2, b2⟩ := asc_pK (g := g) (path := path) ls (j + 1) fun l' hl' => h l' (List.mem_cons_of_mem _ hl')
    refine ⟨pw_app a1 a2 fun x hx y hy => ?_, fun p hp => ?_⟩
    · obtain ⟨q1, e1⟩ := b1 x hx
      obtain ⟨m, q2, hm, e2⟩ := b2 y hy
      rw [e1, e2, List.append_assoc]
      refine (lexL_pre _ _ _).mpr ?_
      exact .inl (by omega)
    · rcases List.mem_append.mp hp with hp | hp
      · obtain ⟨q, e⟩ := b1 p hp
        exact ⟨j, q, Nat.le_refl _, by rw [e]; simp⟩
      · obtain ⟨m, q, hm, e⟩ := b2 p hp
        exact ⟨m, q, by omega, e⟩
theorem asc_pS {R : Type} {g : R → List Int → List (List Int)} {pre : List Int} : ∀ (rs : List R) (j : Nat), (∀ r ∈ rs, ∀ path, Asc (g r path) ∧ ∀ p ∈ g r path, ∃ q, p = path ++ q) → Asc (pS g pre rs j) ∧ ∀ p ∈ pS g pre rs j, ∃ (m : Nat) (q : List Int), j ≤ m ∧ p = pre ++ ((m : Int) :: q)
  | [], j, _ => ⟨.nil, fun p hp => by simp [pS] at hp⟩
  | l :: ls, j, h => by
    unfold pS
    obtain ⟨a1, b1⟩ := h l List.mem_cons_self (pre ++ [(j : Int)])
    obtain ⟨a2, b2⟩ := asc_pS (g := g) (pre := pre) ls (j + 1) fun l' hl' => h l' (List.mem_cons_of_mem _ hl')
    refine ⟨pw_app a1 a2 fun x hx y hy => ?_, fun p hp => ?_⟩
    · obtain ⟨q1, e1⟩ := b1 x hx
      obtain ⟨m, q2, hm, e2⟩ := b2 y hy
      rw [e1, e2, List.append_assoc]
      refine (lexL_pre _ _ _).mpr ?_
      exact .inl (by omega)
    · rcases List.mem_append.mp hp with hp | hp
      · obtain ⟨q, e⟩ := b1 p hp
        exact ⟨j, q, Nat.le_refl _, by rw [e]; simp⟩
      · obtain ⟨m, q, hm, e⟩ := b2 p hp
        exact ⟨m, q, by omega, e⟩
theorem asc_R : ∀ (d : Nat) (r : Row d) (path : List Int), Asc (pathsR d r path) ∧ ∀ p ∈ pathsR d r path, ∃ q, p = path ++ q
  | 0, r, _ => nomatch r
  | d + 1, r, path => by
    unfold pathsR
    obtain ⟨a, b⟩ := asc_pK (g := fun l pre => pS (pathsR d) pre l 0) (path := path) (kids r.2) 0 fun l _ pre => by
      obtain ⟨a, b⟩ := asc_pS (g := pathsR d) (pre := pre) l 0 fun r' _ path => asc_R d r' path
      exact ⟨a, fun p hp => by obtain ⟨m, q, _, e⟩ := b p hp; exact ⟨_, e⟩⟩
    refine ⟨List.pairwise_cons.mpr ⟨fun y hy => ?_, a⟩, fun p hp => ?_⟩
    · obtain ⟨m, q, _, e⟩ := b y hy
      rw [e]
      have := (lexL_pre path [] ((m : Int) :: q)).mpr True.intro
      rw [List.append_nil] at this
      exact this
    · rcases List.mem_cons.mp hp with rfl | hp
      · exact ⟨[], by simp⟩
      · obtain ⟨m, q, _, e⟩ := b p hp
        exact ⟨_, e⟩
theorem asc_L (d : Nat) (rows : List (Row d)) (pre : List Int) : Asc (pathsL d rows pre) ∧ ∀ p ∈ pathsL d rows pre, ∃ (m : Nat) (q : List Int), p = pre ++ ((m : Int) :: q) := by
  obtain ⟨a, b⟩ := asc_pS (g := pathsR d) (pre := pre) rows 0 fun r' _ path => asc_R d r' path
  exact ⟨a, fun p hp => by obtain ⟨m, q, _, e⟩ := b p hp; exact ⟨m, q, e⟩⟩
theorem Asc.nodup {l : List (List Int)} (h : Asc l) : l.Nodup := h.imp fun {a b} q e => by subst e; exact lexL_irr _ q
/-! ### numbers of paths -/
theorem inl_inj {a b : List Int} (h : (a.map Sum.inl : List Key) = b.map Sum.inl) : a = b := by
  induction a generalizing b with
  | nil => cases b with
    | nil => rfl
    | cons y b => simp at h
  | cons x a ih => cases b with
    | nil => simp at h
    | cons y b =>
      simp only [List.map_cons, List.cons.injEq, Sum.inl.injEq] at h
      rw [h.1, ih h.2]
theorem nums_fold (ns : List Int) : ∀ (l : List (List Int × Nat)) (acc : List (List Key × V)), (∀ x ∈ l, x.1 ≠ ns) → valV (l.foldl numStep acc) (ns.map Sum.inl : List Key) = valV acc (ns.map Sum.inl : List Key)
  | [], acc, _ => rfl
  | x :: l, acc, h => by
    rw [List.foldl_cons, nums_fold ns l _ fun y hy => h y (List.mem_cons_of_mem _ hy)]
    unfold numStep
    rw [valV_put, if_neg fun e => h x List.mem_cons_self (inl_inj e).symm]
theorem nums_none {pl : List (List Int)} {ns : List Int} (h : ns ∉ pl) : valV (numsOf pl) (ns.map Sum.inl : List Key) = none := by
  unfold numsOf
  rw [nums_fold ns _ _ fun x hx e => h ?_]
  · rfl
  · obtain ⟨i, hi⟩ := List.getElem?_of_mem hx
    rw [List.getElem?_zipIdx] at hi
    cases q : pl[i]? with
    | none => rw [q] at hi; simp at hi
    | some y =>
      rw [q] at hi
      have := Option.some.inj hi
      rw [← e, ← this]
      exact List.mem_of_getElem? q
theorem nums_some {pl : List (List Int)} (nd : pl.Nodup) {i : Nat} {ns : List Int} (h : pl[i]? = some ns) : valV (numsOf pl) (ns.map Sum.inl : List Key) = some (.int (i : Nat)) := by
  have lt : i < pl.length := (List.getElem?_eq_some_iff.mp h).1
  have hz : pl.zipIdx[i]? = some (ns, i) := by rw [List.getElem?_zipIdx, h]; simp
  unfold numsOf
  have e : pl.zipIdx = pl.zipIdx.take i ++ (ns, i) :: pl.zipIdx.drop (i + 1) := by
    conv => lhs; rw [← List.take_append_drop i pl.zipIdx]
    congr 1
    obtain ⟨l2, e2⟩ := List.getElem?_eq_some_iff.mp hz
    rw [List.drop_eq_getElem_cons l2, e2]
  rw [e, List.foldl_append, List.foldl_cons, nums_fold ns]
  · unfold numStep
    rw [valV_put, if_pos rfl]
  · intro x hx e2
    obtain ⟨j, hj⟩ := List.getElem?_of_mem hx
    rw [List.getElem?_drop, List.getElem?_zipIdx] at hj
    cases q : pl[i + 1 + j]? with
    | none => rw [q] at hj; simp at hj
    | some y =>
      rw [q] at hj
      have e3 := Option.some.inj hj
      have e4 : y = ns := by rw [← e2, ← e3]
      subst e4
      have l2 := (List.getElem?_eq_some_iff.mp q).1
      have l3 := List.pairwise_iff_getElem.mp nd i (i + 1 + j) lt l2 (by omega)
      rw [List.getElem?_eq_getElem lt] at h
      rw [List.getElem?_eq_getElem l2] at q
      exact l3 (by rw [Option.some.inj h, Option.some.inj q])
theorem nums_is {pl : List (List Int)} (nd : pl.Nodup) (ns : List Int) : (valV (numsOf pl) (ns.map Sum.inl : List Key)).isSome = decide (ns ∈ pl) := by
  by_cases c : ns ∈ pl
  · obtain ⟨i, hi⟩ := List.getElem?_of_mem c
    rw [nums_some nd hi, decide_eq_true c]
    rfl
  · rw [nums_none c, decide_eq_false c]
    rfl
end OR

set_option Elab.async false
set_option maxRecDepth 100000
set_option maxHeartbeats 8000000
set_option linter.all false
namespace OR
open PySem PySem.Spec PyProof.Rows L2 TS2
/-- raised: an own error with these fields -/
def Rz (C : Addr) (kvs : List (Str × V)) (Cs : Addr → Prop) (H : Hp) (E : XK) : Prop := ∀ (d0 : Addr) (H' : Hp), Kp Cs H H' → H d0 = none → H' d0 = some (.xd kvs) → E (.ref C) (some d0) H'
theorem Rz.of {C : Addr} {kvs : List (Str × V)} {Cs Cs' : Addr → Prop} {H H1 : Hp} {E : XK} (r : Rz C kvs Cs H E) (k : Kp Cs H H1) (f : ∀ b, H1 b = none → H b = none) (h : ∀ b, Cs' b → Cs b ∨ H b = none) : Rz C kvs Cs' H1 E := fun d0 H' k' n e =>
  r d0 H' (fun b o hb nb => k' b o (k b o hb nb) fun c => by rcases h b c with z | z; exact nb z; rw [hb] at z; cases z) (f _ n) e
theorem rz_now {C : Addr} {kvs : List (Str × V)} {Cs : Addr → Prop} {H H' : Hp} {E : XK} {d0 : Addr} (r : Rz C kvs Cs H E) (nd : H d0 = none) (hd : H' d0 = some (.xd kvs)) (oth : ∀ b, b ≠ d0 → H' b = H b) : E (.ref C) (some d0) H' :=
  r d0 H' (fun b o hb _ => by rw [oth b (ne_of_none hb nd)]; exact hb) nd hd
abbrev cIA (K : PySem.W.Frag) : Addr := He.ga K "InvalidArgument"
/-- a program stands at p -/
def PgAt (K : PySem.W.Frag) (H : Hp) (p : Addr) (ka ks : List (Key × V)) (vi : V) (d : Nat) (rows : List (Row d)) : Prop := ∃ Hr dx, DraftOk K Hr p dx (He.ga K "Program") ka ks vi d rows ∧ Same Hr H
theorem PgAt.same {K : PySem.W.Frag} {H H' : Hp} {p : Addr} {ka ks : List (Key × V)} {vi : V} {d : Nat} {rows : List (Row d)} (h : PgAt K H p ka ks vi d rows) (s : Same H H') : PgAt K H' p ka ks vi d rows := by
  obtain ⟨Hr, dx, c, S⟩ := h
  exact ⟨Hr, dx, c, S.trans s⟩
/-- whether a value is an integer, as the code tells it -/
def IntIs (K : PySem.W.Frag) (H : Hp) (v : V) (b : Bool) : Prop := (∃ i, v = .int i ∧ b = true) ∨ (∃ c, v = .bl c ∧ b = false) ∨ ((∀ H', Same H H' → NotA K H' v "int") ∧ b = false)
theorem IntIs.same {K : PySem.W.Frag} {H H' : Hp} {v : V} {b : Bool} (h : IntIs K H v b) (s : Same H H') : IntIs K H' v b := by
  rcases h with h | h | ⟨h, e⟩
  · exact .inl h
  · exact .inr (.inl h)
  · exact .inr (.inr ⟨fun H'' s' => h H'' (s.trans s'), e⟩)
def spIsIntG (K : PySem.W.Frag) : Sp := fun vs H Q _ => ∃ (v : V) (b : Bool), vs = [v] ∧ IntIs K H v b ∧ Q (.bl b) H
/-- whether a value is one of these paths -/
def HasIs (K : PySem.W.Frag) (H : Hp) (pl : List (List Int)) (v : V) (b : Bool) : Prop := ((∀ H', Same H H' → NotA K H' v "tuple") ∧ b = false) ∨ (∃ t xs bs, v = .ref t ∧ SqT K H t xs ∧ xs.length ≤ 1000 ∧ All2 (IntIs K H) xs bs ∧ bs.all id = false ∧ b = false) ∨ ∃ t ns, v = .ref t ∧ H t = some (.tup (ns.map V.int)) ∧ ns.length ≤ 1000 ∧ b = decide (ns ∈ pl)
theorem HasIs.same {K : PySem.W.Frag} {H H' : Hp} {pl : List (List Int)} {v : V} {b : Bool} (h : HasIs K H pl v b) (s : Same H H') : HasIs K H' pl v b := by
  rcases h with ⟨h, e⟩ | ⟨t, xs, bs, e, h, l, a, f, eb⟩ | ⟨t, ns, e, h, l, eb⟩
  · exact .inl ⟨fun H'' s' => h H'' (s.trans s'), e⟩
  · exact .inr (.inl ⟨t, xs, bs, e, sameT s h, l, all2_mono a fun _ _ q => q.same s, f, eb⟩)
  · exact .inr (.inr ⟨t, ns, e, s _ _ h, l, eb⟩)
def spHas (K : PySem.W.Frag) (d : Nat) : Sp := fun vs H Q _ => ∃ (p : Addr) (v : V) (b : Bool) (ka ks : List (Key × V)) (vi : V) (rows : List (Row d)), vs = [.ref p, v] ∧ PgAt K H p ka ks vi d rows ∧ HasIs K H (planOf d rows).pl v b ∧ ∀ H', Same H H' → Q (.bl b) H'
def spRows (K : PySem.W.Frag) (d : Nat) : Sp := fun vs H Q _ => ∃ (p : Addr) (ka ks : List (Key × V)) (vi : V) (rows : List (Row d)), vs = [.ref p] ∧ PgAt K H p ka ks vi d rows ∧ rows.length ≤ 1000 ∧
  ∀ (H' : Hp) (D : Addr) (ys : List V), Same H H' → H D = none → H' D = some (.lst ys) → All2 (RowAt K (res (NL H) H') d) rows ys → Q (.ref D) H'
def spPaths (K : PySem.W.Frag) (d : Nat) : Sp := fun vs H Q _ => ∃ (p : Addr) (ka ks : List (Key × V)) (vi : V) (rows : List (Row d)), vs = [.ref p] ∧ PgAt K H p ka ks vi d rows ∧
  ∀ (H' : Hp) (D : Addr) (pa : List Addr), Same H H' → H D = none → H' D = some (.lst (pa.map V.ref)) → PathsAt H' (planOf d rows).pl pa → Q (.ref D) H'
/-- the rows of a list, flat, are less deep -/
theorem flat_lt : ∀ (d : Nat) (r : Row d), ∀ x ∈ flatR d r, x.1 < d
  | 0, r, _, _ => nomatch r
  | d + 1, r, x, hx => by
    rcases List.mem_cons.mp hx with rfl | hx
    · exact Nat.lt_succ_self d
    · obtain ⟨l1, h1, h2⟩ := List.mem_flatten.mp hx
      obtain ⟨l, hl, rfl⟩ := List.mem_map.mp h1
      obtain ⟨l2, h3, h4⟩ := List.mem_flatten.mp h2
      obtain ⟨r', hr', rfl⟩ := List.mem_map.mp h3
      exact Nat.lt_succ_of_lt (flat_lt d r' x h4)
theorem flatL_lt (d : Nat) (rows : List (Row d)) : ∀ x ∈ flatL d rows, x.1 < d := fun x hx => by
  obtain ⟨l2, h3, h4⟩ := List.mem_flatten.mp hx
  obtain ⟨r', hr', rfl⟩ := List.mem_map.mp h3
  exact flat_lt d r' x h4
theorem shape_flat : ∀ (d : Nat) (r : Row d), Shape d r → ∀ x ∈ flatR d r, Shape (x.1 + 1) x.2
  | 0, r, _, _, _ => nomatch r
  | d + 1, r, sh, x, hx => by
    rcases List.mem_cons.mp hx with rfl | hx
    · exact sh
    · obtain ⟨l1, h1, h2⟩ := List.mem_flatten.mp hx
      obtain ⟨l, hl, rfl⟩ := List.mem_map.mp h1
      obtain ⟨l2, h3, h4⟩ := List.mem_flatten.mp h2
      obtain ⟨r', hr', rfl⟩ := List.mem_map.mp h3
      exact shape_flat d r' ((sh.2.2.2 l hl).2 r' hr') x h4
theorem shape_flatL {d : Nat} {rows : List (Row d)} (sh : ∀ r ∈ rows, Shape d r) : ∀ x ∈ flatL d rows, Shape (x.1 + 1) x.2 := fun x hx => by
  obtain ⟨l2, h3, h4⟩ := List.mem_flatten.mp hx
  obtain ⟨r', hr', rfl⟩ := List.mem_map.mp h3
  exact shape_flat d r' (sh r' hr') x h4
def spRowAt (K : PySem.W.Frag) (d : Nat) : Sp := fun vs H Q E => ∃ (p : Addr) (v : V) (ka ks : List (Key × V)) (vi : V) (rows : List (Row d)), vs = [.ref p, v] ∧ PgAt K H p ka ks vi d rows ∧
  ((HasIs K H (planOf d rows).pl v false ∧ Rz (cIA K) [("part", .str "path")] (fun _ => False) H E) ∨
   ∃ (t : Addr) (ns : List Int) (i : Nat) (x : AnyRow), v = .ref t ∧ H t = some (.tup (ns.map V.int)) ∧ ns.length ≤ 1000 ∧ (planOf d rows).pl[i]? = some ns ∧ (planOf d rows).fl[i]? = some x ∧
     ∀ (H' : Hp) (y : V), Same H H' → RowAt K (res (NL H) H') (x.1 + 1) x.2 y → Q y H')
section
variable {P : Program} {w : World} {K : PySem.W.Frag} {mg : Str → Option Value} {base : Heap}
theorem ok_is_integerG {f : Addr} {fd : FuncData} (F : FnP K "is_integer" "is_integer" s_is_integer f fd) (T : Tx w K mg) : FnOk P w K mg base CX0 1 f fd p_is_integer (spIsIntG K) := by
  refine F.ok sc_is_integer (fun vs H Q E h => ?_) (fun cdv A outer s H vs Q E hr h => ?_)
  · obtain ⟨v, b, rfl, _⟩ := h
    rfl
  · obtain ⟨v, b, rfl, hv, k⟩ := h
    refine ⟨_, PSs.nox (pss_one (ps_ret (pe_and (pe_callB call_isi (by rfl) T.b_isinstance (by decide +kernel) (pa_cons (pv 0) (pa_cons (pe_bltn (v := .ty "int") (u := .type "int") (by rfl) T.b_int (by decide +kernel) rfl) pa_nil))) (pe_one (pe_not (pe_callB call_isi (by rfl) T.b_isinstance (by decide +kernel) (pa_cons (pv 0) (pa_cons (pe_bltn (v := .ty "bool") (u := .type "bool") (by rfl) T.b_bool (by decide +kernel) rfl) pa_nil)))))))), ?_⟩
    rcases hv with ⟨i, rfl, rfl⟩ | ⟨c, rfl, rfl⟩ | ⟨h, rfl⟩
    · refine ⟨_, rfl, .int i, .ty "int", _, _, true, rfl, .ty _, .base (.int i), kit_ty (by decide +kernel), _, rfl, ?_⟩
      refine iteT ⟨_, rfl, .int i, .ty "bool", _, _, false, rfl, .ty _, .base (.int i), kit_ty (by decide +kernel), _, rfl, ?_⟩
      exact k
    · refine ⟨_, rfl, .bl c, .ty "int", _, _, true, rfl, .ty _, .base (.bl c), kit_ty (by decide +kernel), _, rfl, ?_⟩
      refine iteT ⟨_, rfl, .bl c, .ty "bool", _, _, true, rfl, .ty _, .base (.bl c), kit_ty (by decide +kernel), _, rfl, ?_⟩
      exact k
    · obtain ⟨ty, n1, n2⟩ := h H (Same.refl H)
      refine ⟨_, rfl, v, .ty "int", _, _, false, rfl, .ty _, n1, n2, _, rfl, ?_⟩
      exact iteF k
theorem ok_rows {kd d : Nat} {f : Addr} {fd : FuncData} (F : FnP K "rows" "Program.rows" s_Program_rows f fd) (T : Tx w K mg) (G_copied : Def P w K mg base CX0 kd "copied" p_copied (spCopied K (d + 1))) : FnOk P w K mg base CX0 (kd + 1) f fd p_Program_rows (spRows K d) := by
  refine F.ok sc_Program_rows (fun vs H Q E h => ?_) (fun cdv A outer s H vs Q E hr h => ?_)
  · obtain ⟨p, _, _, _, _, rfl, _⟩ := h
    rfl
  · obtain ⟨p, ka, ks, vi, rows, rfl, ⟨Hr, dx, ⟨a, s', l, pl, nt, dx2, ys, h0, h1, h2, h3, h4, sh, h5, h6⟩, Sr⟩, few, k⟩ := h
    refine ⟨_, PSs.nox (pss_one (ps_ret (pe_fn G_copied (hr.mono (by omega)) (by rfl) pass0 (pa_cons (pe_fld (pv 0) rfl) pa_nil)))), ?_⟩
    refine ⟨_, rfl, p, _, dx, _, .ref l, rfl, Sr _ _ h0, T.c_Program, T.n_Program_row_list, rfl, l, Hr, rows, ys, rfl, h3, Sr, h4, few, sh, k⟩
theorem ok_paths {d : Nat} {f : Addr} {fd : FuncData} (F : FnP K "paths" "Program.paths" s_Program_paths f fd) (T : Tx w K mg) : FnOk P w K mg base CX0 1 f fd p_Program_paths (spPaths K d) := by
  refine F.ok sc_Program_paths (fun vs H Q E h => ?_) (fun cdv A outer s H vs Q E hr h => ?_)
  · obtain ⟨p, _, _, _, _, rfl, _⟩ := h
    rfl
  · obtain ⟨p, ka, ks, vi, rows, rfl, ⟨Hr, dx, ⟨a, s', l, pl, nt, dx2, ys, h0, h1, h2, h3, h4, sh, h5, h6⟩, Sr⟩, k⟩ := h
    obtain ⟨a1, a2, a3, a4, a5, a6, a7, F', pa, ce, cs, pat⟩ := h5
    refine ⟨_, PSs.nox (pss_one (ps_ret (pe_callTy call_list_of (by rfl) T.b_list (by decide +kernel) (pa_cons (pe_fld (pe_fld (pv 0) rfl) rfl) pa_nil)))), ?_⟩
    refine ⟨_, rfl, p, _, dx, _, .ref pl, rfl, Sr _ _ h0, T.c_Program, T.n_Program_plan, rfl, pl, _, dx2, _, .ref a2, rfl, Sr _ _ pat.ob, T.c_Plan, T.n_Plan_places, rfl, a2, _, rfl, .inl (SqL.of (Sr _ _ pat.h2)), fun D nD => ?_⟩
    exact k _ D pa (Same.new nD) nD upd_same (pat.pt.imp fun _ _ _ e => Same.new nD _ _ (Sr _ _ e))
end
end OR

set_option Elab.async false
set_option maxRecDepth 100000
set_option maxHeartbeats 4000000
set_option linter.all false
namespace OR
open PySem PySem.Spec PyProof.Rows L2 TS2
/-! ### a program as in the first law: what is drawn stands -/
structure Kit where
  ka : List (Key × V)
  ks : List (Key × V)
  asks : List Str
  sigs : List Str
  gates : List Str
  inputs : List Str
  labels : List Str
  slots : List Str
  words : List Str
  deep : Nat
/-- a part is a good one for its form -/
def PG (kt : Kit) {R : Type} (f : Str) : Pt R → Prop
  | .word z => isWord z = true ∧ (f = "ask" → z ∈ kt.asks) ∧ (f = "signal" → z ∈ kt.sigs) ∧ (f = "slot" → z ∈ kt.slots) ∧ (f = "source" → z ∈ kt.slots ∨ z = "in") ∧ (f = "label" → z ∈ kt.labels) ∧ (f = "gate" → z ∈ kt.gates) ∧ f ≠ "labels" ∧ f ≠ "words" ∧ f ≠ "rows" ∧ f ≠ "sides" ∧ f ≠ "edit"
  | .words l => (f = "labels" ∨ f = "words") ∧ areW 3 l = true ∧ (f = "labels" → ∀ z ∈ l, z ∈ kt.labels)
  | .rows l => f = "rows" ∧ l.length ≤ 20
  | .sides ls => f = "sides" ∧ (ls.length = 2 ∨ ls.length = 3) ∧ ∀ l ∈ ls, l.length ≤ 20
structure LocalOk (kt : Kit) (il : Bool) {R : Type} (w : Str) (ps : List (Pt R)) : Prop where
  f : (w, fsOf w) ∈ ftab
  e : w ≠ "edit"
  p : All2 (PG kt) (fsOf w) ps
  l : w = "leave" → il = true
def Good (kt : Kit) : (d : Nat) → Bool → Row d → Prop
  | 0, _, r => nomatch r
  | d + 1, il, r => LocalOk kt il r.1 r.2 ∧ (kids r.2 ≠ [] → 1 ≤ d) ∧ ∀ l ∈ kids r.2, ∀ r' ∈ l, Good kt d (innerLoop r.1 il) r'
structure Kit.Ok (kt : Kit) : Prop where
  a : kt.ka.map (·.1) = kt.asks.map Sum.inr
  s : kt.ks.map (·.1) = kt.sigs.map Sum.inr
  n : ("in" : Str) ∉ kt.slots
  l3 : kt.labels.length ≤ 3
  s2 : kt.slots.length ≤ 2
  g2 : kt.gates.length ≤ 2
  d5 : kt.deep ≤ 5
theorem isWord_len {z : Str} (h : isWord z = true) : z.length ≤ 8 := by
  unfold isWord at h
  simp only [Bool.and_eq_true, decide_eq_true_eq] at h
  omega
theorem areW_all {m : Int} {l : List Str} (h : areW m l = true) : (∀ z ∈ l, isWord z = true) ∧ (l.length : Int) ≤ m := by
  unfold areW at h
  simp only [Bool.and_eq_true, decide_eq_true_eq] at h
  refine ⟨fun z hz => ?_, h.1.2⟩
  have := List.all_eq_true.mp h.2.1 (isWord z) (List.mem_map.mpr ⟨z, hz, rfl⟩)
  exact this
theorem hasK_of {kvs : List (Key × V)} {ns : List Str} (h : kvs.map (·.1) = ns.map Sum.inr) {z : Str} (hz : z ∈ ns) : hasK kvs z = true := by
  unfold hasK
  cases e : valV kvs (Sum.inr z : Key) with
  | some v => rfl
  | none =>
    exact absurd (by rw [h]; exact List.mem_map.mpr ⟨z, hz, rfl⟩) (valV_not e)
theorem pg_fit {kt : Kit} (ok : kt.Ok) {R : Type} {f : Str} {p : Pt R} (h : PG kt f p) : fit kt.ka kt.ks f p = true := by
  cases p with
  | word z =>
    obtain ⟨w, h1, h2, h3, h4, h5, h6, n1, n2, n3, n4, n5⟩ := h
    unfold fit
    by_cases c1 : f = "ask"
    · rw [if_pos c1]; simp [onWord, w, hasK_of ok.a (h1 c1)]
    rw [if_neg c1]
    by_cases c2 : f = "signal"
    · rw [if_pos c2]; simp [onWord, w, hasK_of ok.s (h2 c2)]
    rw [if_neg c2]
    by_cases c3 : f = "slot"
    · rw [if_pos c3]
      have : z ≠ "in" := fun e => ok.n (e ▸ h3 c3)
      simp [onWord, w, this]
    rw [if_neg c3, if_neg (fun q => by rcases q with q | q; exact n1 q; exact n2 q), if_neg n3, if_neg n4]
    simp [onWord, w]
  | words l =>
    obtain ⟨h1, h2, _⟩ := h
    unfold fit
    rw [if_neg (by rcases h1 with h | h <;> rw [h] <;> decide +kernel), if_neg (by rcases h1 with h | h <;> rw [h] <;> decide +kernel), if_neg (by rcases h1 with h | h <;> rw [h] <;> decide +kernel), if_pos h1]
    exact h2
  | rows l =>
    obtain ⟨h1, _⟩ := h
    subst h1
    unfold fit
    rw [if_neg (by decide +kernel), if_neg (by decide +kernel), if_neg (by decide +kernel), if_neg (by decide +kernel), if_pos rfl]
    rfl
  | sides ls =>
    obtain ⟨h1, h2, _⟩ := h
    subst h1
    unfold fit
    rw [if_neg (by decide +kernel), if_neg (by decide +kernel), if_neg (by decide +kernel), if_neg (by decide +kernel), if_neg (by decide +kernel), if_pos rfl]
    exact decide_eq_true h2
theorem all2_zip {α β : Type} {R : α → β → Prop} {xs : List α} {ys : List β} (h : All2 R xs ys) : ∀ x ∈ xs.zip ys, R x.1 x.2 := by
  induction h with
  | nil => intro x hx; simp at hx
  | cons h t ih =>
    intro x hx
    rw [List.zip_cons_cons] at hx
    rcases List.mem_cons.mp hx with rfl | hx
    · exact h
    · exact ih x hx
theorem lo_form {kt : Kit} (ok : kt.Ok) {il : Bool} {R : Type} {w : Str} {ps : List (Pt R)} (h : LocalOk kt il w ps) : hasForm false kt.ka kt.ks w (fsOf w) ps = true := by
  unfold hasForm
  rw [decide_eq_false h.e, decide_eq_true h.p.len.symm]
  simp only [Bool.false_and, Bool.not_false, Bool.true_and, List.all_map, List.all_eq_true]
  intro x hx
  exact pg_fit ok (all2_zip h.p x hx)
theorem pg_words {kt : Kit} {R : Type} {f : Str} {p : Pt R} (h : PG kt f p) : (wordsP p).length ≤ 3 ∧ (∀ z ∈ wordsP p, isWord z = true) ∧ (kidsP p).length ≤ 3 ∧ ∀ l ∈ kidsP p, l.length ≤ 20 := by
  cases p with
  | word z => exact ⟨by simp [wordsP], fun x hx => by simp [wordsP] at hx; rw [hx]; exact h.1, by simp [kidsP], fun l hl => by simp [kidsP] at hl⟩
  | words l =>
    obtain ⟨a, b⟩ := areW_all h.2.1
    exact ⟨by show l.length ≤ 3; omega, a, by simp [kidsP], fun l hl => by simp [kidsP] at hl⟩
  | rows l => exact ⟨by simp [wordsP], fun z hz => by simp [wordsP] at hz, by simp [kidsP], fun l' hl => by simp [kidsP] at hl; rw [hl]; exact h.2⟩
  | sides ls =>
    refine ⟨by simp [wordsP], fun z hz => by simp [wordsP] at hz, ?_, h.2.2⟩
    show ls.length ≤ 3
    rcases h.2.1 with e | e <;> omega
theorem fs_four {w : Str} (h : (w, fsOf w) ∈ ftab) : (fsOf w).length ≤ 4 := ftab_four _ h
theorem fl_len {α β : Type} {f : α → List β} {c : Nat} : ∀ (l : List α), (∀ x ∈ l, (f x).length ≤ c) → ((l.map f).flatten).length ≤ c * l.length
  | [], _ => by simp
  | x :: l, h => by
    have h1 := h x List.mem_cons_self
    have h2 := fl_len l fun y hy => h y (List.mem_cons_of_mem _ hy)
    rw [List.map_cons, List.flatten_cons, List.length_append, List.length_cons, Nat.mul_add]
    omega
theorem lo_kids {kt : Kit} {il : Bool} {R : Type} {w : Str} {ps : List (Pt R)} (h : LocalOk kt il w ps) : ps.length ≤ 4 ∧ (kids ps).length ≤ 12 ∧ ∀ l ∈ kids ps, l.length ≤ 20 := by
  have h4 : ps.length ≤ 4 := by rw [← h.p.len]; exact fs_four h.f
  have pw : ∀ p ∈ ps, (kidsP p).length ≤ 3 ∧ ∀ l ∈ kidsP p, l.length ≤ 20 := fun p hp => by
    obtain ⟨i, hi⟩ := List.getElem?_of_mem hp
    obtain ⟨f, _, hf⟩ := h.p.other hi
    exact (pg_words hf).2.2
  refine ⟨h4, ?_, fun l hl => ?_⟩
  · have := fl_len (f := kidsP) (c := 3) ps fun p hp => (pw p hp).1
    show ((ps.map kidsP).flatten).length ≤ 12
    omega
  · obtain ⟨l1, h1, h2⟩ := List.mem_flatten.mp hl
    obtain ⟨p, hp, rfl⟩ := List.mem_map.mp h1
    exact (pw p hp).2 l h2
theorem good_pre {kt : Kit} : ∀ (d : Nat) (il : Bool) (r : Row d), Good kt d il r → Pre d r
  | 0, _, r, _ => nomatch r
  | d + 1, il, r, h => by
    obtain ⟨lo, _, hk⟩ := h
    obtain ⟨k4, k12, k14⟩ := lo_kids lo
    refine ⟨lo.f, fun x hx => ?_, by omega, by omega, fun l hl => ⟨by have := k14 l hl; omega, fun r' hr' => good_pre d _ r' (hk l hl r' hr')⟩⟩
    have pg := all2_zip lo.p x hx
    obtain ⟨w3, wa, k3, _⟩ := pg_words pg
    refine ⟨fun z hz => by have := isWord_len (wa z hz); omega, by omega, by omega, fun q ls e => ?_, fun q l e => ?_⟩
    · rw [e] at pg
      have := pg.1
      rcases q with q | q <;> rw [q] at this <;> exact absurd this (by decide +kernel)
    · rw [e] at pg
      have := pg.1
      rw [q] at this
      exact absurd this (by decide +kernel)
theorem isNew_free {R : Type} {fs : List Str} {ps : List (Pt R)} {st : Sn} (n : ("edit" : Str) ∉ fs) (h : st.1 = []) : (isNew fs ps st).1 = true ∧ (isNew fs ps st).2.1 = [] := by
  unfold isNew
  rw [if_neg n]
  split
  · exact ⟨by rw [h]; rfl, h⟩
  · exact ⟨rfl, h⟩
theorem ftab_noedit : ∀ e ∈ ftab, e.1 ≠ "edit" → ("edit" : Str) ∉ e.2 := by decide +kernel
theorem seqChk_good {α : Type} {f : α → List Int → Sn → Option (List Int) × Sn} {pre : List Int} : ∀ {l : List α} {i : Nat} {st : Sn}, st.1 = [] → (∀ x ∈ l, ∀ (n : Int) st, st.1 = [] → (f x (pre ++ [n]) st).1 = none ∧ (f x (pre ++ [n]) st).2.1 = []) → (seqChk f pre l i st).1 = none ∧ (seqChk f pre l i st).2.1 = []
  | [], i, st, h, _ => ⟨rfl, h⟩
  | x :: xs, i, st, h, k => by
    unfold seqChk
    obtain ⟨a, b⟩ := k x List.mem_cons_self (i : Int) st h
    cases e : f x (pre ++ [(i : Int)]) st with
    | mk o st' =>
      rw [e] at a b
      have a : o = none := a
      subst a
      exact seqChk_good b fun y hy => k y (List.mem_cons_of_mem _ hy)
theorem good_chk {kt : Kit} (ok : kt.Ok) : ∀ (d : Nat) (il : Bool) (rows : List (Row d)) (pre : List Int) (st : Sn), st.1 = [] → pre.length + 2 * d = 10 → (∀ r ∈ rows, Good kt d il r) → (chk false kt.ka kt.ks d il rows pre st).1 = none ∧ (chk false kt.ka kt.ks d il rows pre st).2.1 = []
  | 0, il, rows, pre, st, h, _, _ => ⟨rfl, h⟩
  | d + 1, il, rows, pre, st, h, hl, g => by
    unfold chk
    refine seqChk_good h fun r hr n st h => ?_
    obtain ⟨lo, kd, hk⟩ := g r hr
    obtain ⟨n1, n2⟩ := isNew_free (ps := r.2) (st := st) (ftab_noedit _ lo.f lo.e) h
    have m : mayS r.1 (pre ++ [n]).length il (kids r.2).length = true := by
      unfold mayS
      split
      · rename_i q; exact lo.l q
      · rw [List.length_append, List.length_singleton]
        by_cases c : kids r.2 = []
        · simp [c]
        · have := kd c
          simp only [Bool.or_eq_true, decide_eq_true_eq]
          omega
    unfold oneChk
    rw [if_pos (by rw [lo_form ok lo, m]; rfl), if_pos n1]
    refine seqChk_good n2 fun l hl' j st h => ?_
    exact good_chk ok d _ l _ st h (by rw [List.length_append, List.length_append, List.length_singleton, List.length_singleton]; omega) (hk l hl')
/-! ### the names -/
theorem good_flat {kt : Kit} : ∀ (d : Nat) (il : Bool) (r : Row d), Good kt d il r → ∀ x ∈ flatR d r, ∃ il', LocalOk kt il' x.2.1 x.2.2
  | 0, _, r, _, _, _ => nomatch r
  | d + 1, il, r, h, x, hx => by
    rcases List.mem_cons.mp hx with rfl | hx
    · exact ⟨il, h.1⟩
    · obtain ⟨l1, h1, h2⟩ := List.mem_flatten.mp hx
      obtain ⟨l, hl, rfl⟩ := List.mem_map.mp h1
      obtain ⟨l2, h3, h4⟩ := List.mem_flatten.mp h2
      obtain ⟨r', hr', rfl⟩ := List.mem_map.mp h3
      exact good_flat d _ r' (h.2.2 l hl r' hr') x h4
theorem good_flatL {kt : Kit} {d : Nat} {il : Bool} {rows : List (Row d)} (g : ∀ r ∈ rows, Good kt d il r) : ∀ x ∈ flatL d rows, ∃ il', LocalOk kt il' x.2.1 x.2.2 := fun x hx => by
  obtain ⟨l2, h3, h4⟩ := List.mem_flatten.mp hx
  obtain ⟨r', hr', rfl⟩ := List.mem_map.mp h3
  exact good_flat d il r' (g r' hr') x h4
theorem named_in' {kt : Kit} {il : Bool} {R : Type} {w : Str} {ps : List (Pt R)} (h : LocalOk kt il w ps) (which : List Str) {S : Str → Prop} (k : ∀ f p, f ∈ which → PG kt f (p : Pt R) → ∀ z ∈ wordsP p, S z) : (∀ z ∈ named which (fsOf w) ps, S z) ∧ (named which (fsOf w) ps).length ≤ 12 := by
  refine ⟨fun z hz => ?_, ?_⟩
  · obtain ⟨l, hl, hz⟩ := List.mem_flatten.mp hz
    obtain ⟨x, hx, rfl⟩ := List.mem_map.mp hl
    by_cases c : x.1 ∈ which
    · rw [if_pos c] at hz
      exact k x.1 x.2 c (all2_zip h.p x hx) z hz
    · rw [if_neg c] at hz
      simp at hz
  · have := fl_len (f := fun x : Str × Pt R => if x.1 ∈ which then wordsP x.2 else []) (c := 3) ((fsOf w).zip ps) fun x hx => by
      show (if x.1 ∈ which then wordsP x.2 else []).length ≤ 3
      split
      · exact (pg_words (all2_zip h.p x hx)).1
      · simp
    have l4 := fs_four h.f
    have lz : ((fsOf w).zip ps).length ≤ 4 := by rw [List.length_zip]; omega
    unfold named
    omega
theorem names_sub {kt : Kit} {d : Nat} {il : Bool} {rows : List (Row d)} (g : ∀ r ∈ rows, Good kt d il r) (which : List Str) {S : Str → Prop} (k : ∀ (R : Type) f (p : Pt R), f ∈ which → PG kt f p → ∀ z ∈ wordsP p, S z) : (∀ z ∈ namesAll which (flatL d rows), S z) ∧ (namesAll which (flatL d rows)).length ≤ 12 * lsz d rows := by
  have lo := good_flatL g
  rw [← flatL_len]
  generalize flatL d rows = fl at lo
  refine ⟨fun z hz => ?_, ?_⟩
  · obtain ⟨l, hl, hz⟩ := List.mem_flatten.mp hz
    obtain ⟨x, hx, rfl⟩ := List.mem_map.mp hl
    obtain ⟨_, lo⟩ := lo x hx
    exact (named_in' lo which fun f p hf pg => k _ f p hf pg).1 z hz
  · exact fl_len fl fun x hx => by
      obtain ⟨_, lo⟩ := lo x hx
      exact (named_in' lo which (S := fun _ => True) fun f p hf pg z hz => trivial).2
theorem uniq_sub {l L : List Str} (h : ∀ z ∈ l, z ∈ L) : (uniq l).length ≤ L.length := (uniq_nodup l).length_le_of_subset fun z hz => h z (mem_uniq.mp hz)
theorem good_out {kt : Kit} (ok : kt.Ok) {rows : List (Row 5)} (g : ∀ r ∈ rows, Good kt 5 false r) (few : lsz 5 rows ≤ 60) : outcome false (some kt.ka) (some kt.ks) true 5 (some rows) = none := by
  have h1 := (good_chk ok 5 false rows [] ([], []) rfl (by simp) g).1
  have l1 : labelsN 5 rows ≤ 3 := Nat.le_trans (uniq_sub (names_sub g ["label", "labels"] (S := fun z => z ∈ kt.labels) fun R f p hf pg z hz => by
    cases p with
    | word x =>
      simp [wordsP] at hz
      subst hz
      obtain ⟨_, _, _, _, _, k, _, n1, _⟩ := pg
      rcases List.mem_cons.mp hf with e | hf
      · exact k e
      · exact absurd (List.mem_singleton.mp hf) n1
    | words l =>
      obtain ⟨q, _, k⟩ := pg
      refine k ?_ z hz
      rcases List.mem_cons.mp hf with e | hf
      · rw [e] at q
        rcases q with q | q <;> exact absurd q (by decide +kernel)
      · exact List.mem_singleton.mp hf
    | rows l => simp [wordsP] at hz
    | sides l => simp [wordsP] at hz).1) ok.l3
  have l2 : slotsN 5 rows ≤ 2 := by
    have sub := (names_sub g ["slot", "source"] (S := fun z => z ∈ kt.slots ∨ z = "in") fun R f p hf pg z hz => by
      cases p with
      | word x =>
        simp [wordsP] at hz
        subst hz
        obtain ⟨_, _, _, k1, k2, _⟩ := pg
        rcases List.mem_cons.mp hf with e | hf
        · exact .inl (k1 e)
        · exact k2 (List.mem_singleton.mp hf)
      | words l =>
        obtain ⟨q, _⟩ := pg
        exfalso
        rcases List.mem_cons.mp hf with e | hf
        · rw [e] at q
          rcases q with q | q <;> exact absurd q (by decide +kernel)
        · rw [List.mem_singleton.mp hf] at q
          rcases q with q | q <;> exact absurd q (by decide +kernel)
      | rows l => simp [wordsP] at hz
      | sides l => simp [wordsP] at hz).1
    refine Nat.le_trans (List.Nodup.length_le_of_subset (l₂ := kt.slots) ((uniq_nodup _).filter _) fun z hz => ?_) ok.s2
    obtain ⟨hz, hn⟩ := List.mem_filter.mp hz
    rcases sub z (mem_uniq.mp hz) with h | h
    · exact h
    · exact absurd h (of_decide_eq_true hn)
  have l3 : gatesN 5 rows ≤ 2 := Nat.le_trans (uniq_sub (names_sub g ["gate", "edit"] (S := fun z => z ∈ kt.gates) fun R f p hf pg z hz => by
    cases p with
    | word x =>
      simp [wordsP] at hz
      subst hz
      obtain ⟨_, _, _, _, _, _, k, _, _, _, _, n⟩ := pg
      rcases List.mem_cons.mp hf with e | hf
      · exact k e
      · exact absurd (List.mem_singleton.mp hf) n
    | words l =>
      obtain ⟨q, _⟩ := pg
      exfalso
      rcases List.mem_cons.mp hf with e | hf
      · rw [e] at q
        rcases q with q | q <;> exact absurd q (by decide +kernel)
      · rw [List.mem_singleton.mp hf] at q
        rcases q with q | q <;> exact absurd q (by decide +kernel)
    | rows l => simp [wordsP] at hz
    | sides l => simp [wordsP] at hz).1) ok.g2
  unfold outcome
  simp only [h1, if_true]
  have : fault4 (lsz 5 rows) (labelsN 5 rows) (slotsN 5 rows) (gatesN 5 rows) = none := by
    unfold fault4
    rw [if_neg (by omega), if_neg (by omega), if_neg (by omega), if_neg (by omega)]
  rw [this]
  rfl
theorem lsz_len {d : Nat} (h : 1 ≤ d) (rows : List (Row d)) : rows.length ≤ lsz d rows := by
  obtain ⟨e, rfl⟩ : ∃ e, d = e + 1 := ⟨d - 1, by omega⟩
  induction rows with
  | nil => exact Nat.zero_le _
  | cons r rows ih =>
    have : 1 ≤ rsz (e + 1) r := by
      show 1 ≤ 1 + _
      omega
    show rows.length + 1 ≤ ((r :: rows).map (rsz (e + 1))).sum
    rw [List.map_cons, List.sum_cons]
    unfold lsz at ih
    omega
/-- the rows of the first law, given to a program -/
theorem good_rows {kt : Kit} (ok : kt.Ok) {K : PySem.W.Frag} {H0 : Hp} {r : Addr} {xs : List V} {rows : List (Row 5)} (h : H0 r = some (.lst xs)) (a : All2 (RowAt K H0 5) rows xs) (g : ∀ r ∈ rows, Good kt 5 false r) (few : lsz 5 rows ≤ 60) : RowsArg K H0 5 (.ref r) (some rows) :=
  .good h a (fun x hx => good_pre 5 false x (g x hx)) (by have := lsz_len (by decide) rows; omega) (by omega) fun which => by
    have := (names_sub g which (S := fun _ => True) fun R f p hf pg z hz => trivial).2
    omega
end OR

set_option Elab.async false
set_option maxRecDepth 100000
set_option maxHeartbeats 4000000
set_option linter.all false
namespace OR
open PySem PySem.Spec PyProof.Rows L2 TS2
/-! ### the pool of draws -/
def poolK (b s c : Int) : List (Key × V) := [(.inr "big", .int b), (.inr "seed", .int s), (.inr "k", .int c)]
/-- a pool stands at p -/
def PoolAt (H : Hp) (p : Addr) : Prop := ∃ b s c : Int, H p = some (.dK (poolK b s c))
theorem nBS : ¬ (("big" : Str) = "seed") := by decide +kernel
theorem nBC : ¬ (("big" : Str) = "k") := by decide +kernel
theorem nSC : ¬ (("seed" : Str) = "k") := by decide +kernel
theorem kne {x y : Str} (h : ¬ x = y) : ¬ (Sum.inr x : Key) = Sum.inr y := fun e => h (Sum.inr.inj e)
theorem dg_big {H : Hp} {p : Addr} {b s c : Int} (h : H p = some (.dK (poolK b s c))) : DGet H p (.str "big") (some (.int b)) := by
  have e : valV (poolK b s c) (.inr "big" : Key) = some (.int b) := valV_pos rfl
  rw [← e]
  exact DGet.k (k := .inr "big") h
theorem dg_seed {H : Hp} {p : Addr} {b s c : Int} (h : H p = some (.dK (poolK b s c))) : DGet H p (.str "seed") (some (.int s)) := by
  have e : valV (poolK b s c) (.inr "seed" : Key) = some (.int s) := (valV_neg (kne nBS)).trans (valV_pos rfl)
  rw [← e]
  exact DGet.k (k := .inr "seed") h
theorem dg_k54 {H : Hp} {p : Addr} {b s c : Int} (h : H p = some (.dK (poolK b s c))) : DGet H p (.str "k") (some (.int c)) := by
  have e : valV (poolK b s c) (.inr "k" : Key) = some (.int c) := (valV_neg (kne nBC)).trans ((valV_neg (kne nSC)).trans (valV_pos rfl))
  rw [← e]
  exact DGet.k (k := .inr "k") h
theorem dp_big {H : Hp} {p : Addr} {b s c z : Int} (h : H p = some (.dK (poolK b s c))) : DPut H p (.str "big") (.int z) (upd H p (.dK (poolK z s c))) := by
  have e : putK (poolK b s c) (.inr "big" : Key) (.int z) = poolK z s c := by
    simp [putK, poolK, (kne nBS), (kne nBC), Ne.symm (kne nBS), Ne.symm (kne nBC)]
  rw [← e]
  exact DPut.k (k := .inr "big") h (small1000 (by show 3 ≤ 1000; decide))
theorem dp_k54 {H : Hp} {p : Addr} {b s c z : Int} (h : H p = some (.dK (poolK b s c))) : DPut H p (.str "k") (.int z) (upd H p (.dK (poolK b s z))) := by
  have e : putK (poolK b s c) (.inr "k" : Key) (.int z) = poolK b s z := by
    simp [putK, poolK, (kne nSC), (kne nBC), Ne.symm (kne nSC), Ne.symm (kne nBC)]
  rw [← e]
  exact DPut.k (k := .inr "k") h (small1000 (by show 3 ≤ 1000; decide))
def spPool (K : PySem.W.Frag) : Sp := fun vs H Q _ => ∃ (a : Addr) (ns : List Int) (k : Int), vs = [.ref a, .int k] ∧ SqL K H a (ns.map V.int) ∧ 0 ≤ k ∧ ns.length ≤ 63 ∧
  ∀ (p : Addr) (b s c : Int), H p = none → Q (.ref p) (upd H p (.dK (poolK b s c)))
def spDraw : Sp := fun vs H Q _ => ∃ (p : Addr) (m b s c : Int), vs = [.ref p, .int m] ∧ H p = some (.dK (poolK b s c)) ∧ 1 ≤ m ∧ m < 1000000 ∧
  ∀ d b' s' c' : Int, 0 ≤ d → d < m → Q (.int d) (upd H p (.dK (poolK b' s' c')))
section
variable {P : Program} {w : World} {K : PySem.W.Frag} {mg : Str → Option Value} {base : Heap}
abbrev nPool : List Str := ["_law_script", "_law_k", "_law_cell", "_law_big"]
abbrev nDraw : List Str := ["_law_pool_here", "_law_many", "_law_digit", "_law_one", "_law_two"]
theorem scPool : FnScope nPool ["_law_script", "_law_k"] (defScope s__law_pool) := ⟨rfl, rfl, rfl, by decide +kernel, rfl, by decide +kernel, by decide +kernel⟩
theorem scDraw : FnScope nDraw ["_law_pool_here", "_law_many"] (defScope s__law_draw) := ⟨rfl, rfl, rfl, by decide +kernel, rfl, by decide +kernel, by decide +kernel⟩
theorem ok_draw {f : Addr} {fd : FuncData} (F : FnP K "_law_draw" "_law_draw" s__law_draw f fd) (gInt : mg "int" = none) : FnOk P w K mg base CX0 1 f fd ["_law_pool_here", "_law_many"] spDraw := by
  refine F.ok scDraw (fun vs H Q E h => ?_) (fun cdv A outer s H vs Q E hr h => ?_)
  · obtain ⟨p, m, b, s, c, rfl, _⟩ := h
    rfl
  · obtain ⟨p, m, b, s, c, rfl, hp, m1, m2, k⟩ := h
    have hu := hu_of hr
    refine ⟨_, PSs.nox (pss_cons (ps_dput hu (pv 0) pe_str (pe_op op_add (pe_dget hu (pv 0) pe_str (fun _ _ => rfl)) pe_int) rfl)
      (pss_cons (ps_if (pt_cmpR op_gt (pe_dget hu (pv 0) pe_str (fun _ _ => rfl)) pe_int (nomark _))
        (pss_cons (ps_set (i := 2) scDraw.nd rfl (.inl rfl) (pe_op op_modN (pe_callTy call_int1 (by rfl) gInt (by decide +kernel) (pa_cons (pe_dget hu (pv 0) pe_str (fun _ _ => rfl)) pa_nil)) (pv 1)))
        (pss_cons (ps_dput hu (pv 0) pe_str (pe_op op_fdivN (pe_dget hu (pv 0) pe_str (fun _ _ => rfl)) (pv 1)) rfl)
        (pss_one (ps_ret (pv 2))))) pss_nil)
      (pss_cons (ps_set (i := 3) scDraw.nd rfl (.inl rfl) (pe_op op_add (pe_op op_modN (pe_callTy call_int1 (by rfl) gInt (by decide +kernel) (pa_cons
          (pe_op op_add (pe_op op_add (pe_op op_mul (pe_dget hu (pv 0) pe_str (fun _ _ => rfl)) pe_int) (pe_op op_mul (pe_dget hu (pv 0) pe_str (fun _ _ => rfl)) pe_int)) pe_int) pa_nil)) pe_int) pe_int))
      (pss_cons (ps_set (i := 4) scDraw.nd rfl (.inl rfl) (pe_op op_modN (pe_callTy call_int1 (by rfl) gInt (by decide +kernel) (pa_cons
          (pe_op op_mul (pv 3) (pe_op op_add (pe_op op_fdivN (pv 3) pe_int) pe_int)) pa_nil)) pe_int))
      (pss_cons (ps_set (i := 4) scDraw.nd rfl (.inl rfl) (pe_op op_modN (pe_callTy call_int1 (by rfl) gInt (by decide +kernel) (pa_cons
          (pe_op op_mul (pv 4) (pe_op op_add (pe_op op_fdivN (pv 4) pe_int) pe_int)) pa_nil)) pe_int))
      (pss_one (ps_ret (pe_op op_modN (pe_callTy call_int1 (by rfl) gInt (by decide +kernel) (pa_cons (pe_op op_fdivN (pv 4) pe_int) pa_nil)) (pv 1))))))))), ?_⟩
    -- the k54 goes on
    refine ⟨_, rfl, p, _, rfl, dg_k54 hp, _, _, rfl, rfl, _, rfl, p, _, rfl, dp_k54 hp, ?_⟩
    have h1 : upd H p (.dK (poolK b s (c + 1))) p = some (.dK (poolK b s (c + 1))) := upd_same
    refine ⟨_, rfl, p, _, rfl, dg_big h1, _, _, rfl, rfl, _, rfl, ?_⟩
    refine ite2 (fun hb => ?_) fun hb => ?_
    · refine ⟨_, rfl, p, _, rfl, dg_big h1, .inl ⟨_, rfl, _, rfl, _, _, rfl, rfl, by omega, ?_⟩⟩
      refine ⟨_, rfl, p, _, rfl, dg_big h1, _, rfl, _, _, rfl, rfl, ⟨by omega, by omega⟩, _, rfl, p, _, rfl, dp_big h1, _, rfl, ?_⟩
      rw [upd_upd]
      exact k _ _ _ _ (Int.fmod_nonneg_of_pos _ (by omega)) (Int.fmod_lt_of_pos _ (by omega))
    · refine ⟨_, rfl, p, _, rfl, dg_seed h1, ?_⟩
      refine ⟨_, _, rfl, rfl, .inr ⟨by omega, by omega⟩, ?_⟩
      refine ⟨_, rfl, p, _, rfl, dg_k54 h1, _, _, rfl, rfl, .inr ⟨by omega, by omega⟩, _, _, rfl, rfl, _, _, rfl, rfl, .inl ⟨_, rfl, _, _, rfl, rfl, (by show (2147483629 : Int) ≠ 0; decide), _, _, rfl, rfl, ?_⟩⟩
      generalize hx : (s * 48271 + (c + 1) * 7919 + 30103).fmod 2147483629 = x1
      have x1a : 0 ≤ x1 := by rw [← hx]; exact Int.fmod_nonneg_of_pos _ (by decide)
      have x1b : x1 < 2147483629 := by rw [← hx]; exact Int.fmod_lt_of_pos _ (by decide)
      refine ⟨_, rfl, _, rfl, _, _, rfl, rfl, ⟨by decide, by decide⟩, _, _, rfl, rfl, _, _, rfl, rfl, .inl ⟨by omega, by omega⟩, .inl ⟨_, rfl, _, _, rfl, rfl, (by show (2147483647 : Int) ≠ 0; decide), ?_⟩⟩
      generalize hy : ((x1 + 1) * ((x1 + 1).fdiv 1009 + 69621)).fmod 2147483647 = x2
      have x2a : 0 ≤ x2 := by rw [← hy]; exact Int.fmod_nonneg_of_pos _ (by decide)
      have x2b : x2 < 2147483647 := by rw [← hy]; exact Int.fmod_lt_of_pos _ (by decide)
      refine ⟨_, rfl, _, rfl, _, _, rfl, rfl, ⟨by decide, by decide⟩, _, _, rfl, rfl, _, _, rfl, rfl, .inl ⟨by omega, by omega⟩, .inl ⟨_, rfl, _, _, rfl, rfl, (by show (2147483399 : Int) ≠ 0; decide), ?_⟩⟩
      refine ⟨_, rfl, _, _, rfl, rfl, ⟨by decide, by decide⟩, .inl ⟨_, rfl, _, rfl, _, _, rfl, rfl, by omega, ?_⟩⟩
      exact k _ _ _ _ (Int.fmod_nonneg_of_pos _ (by omega)) (Int.fmod_lt_of_pos _ (by omega))
theorem ok_pool {f : Addr} {fd : FuncData} (F : FnP K "_law_pool" "_law_pool" s__law_pool f fd) (gInt : mg "int" = none) (gLen : mg "len" = none) : FnOk P w K mg base CX0 1 f fd ["_law_script", "_law_k"] (spPool K) := by
  refine F.ok scPool (fun vs H Q E h => ?_) (fun cdv A outer s H vs Q E hr h => ?_)
  · obtain ⟨a, ns, k, rfl, _⟩ := h
    rfl
  · obtain ⟨a, ns, k, rfl, hs, k0, hl, q⟩ := h
    have hu := hu_of hr
    refine ⟨_, PSs.nox (pss_cons (ps_set (i := 2) scPool.nd rfl (.inl rfl) pe_int)
      (C8.pss_cut (ps_if (pt_cmpR op_lt (pv 1) (pe_callB call_len_seq (by rfl) gLen PySem.boot_len (pa_cons (pv 0) pa_nil)) (nomark _))
        (pss_one (ps_set (i := 2) scPool.nd rfl (.inl rfl) (pe_callTy call_int1 (by rfl) gInt (by decide +kernel) (pa_cons (pe_ix ix_list (pv 0) (pv 1) (fun _ _ => rfl)) pa_nil)))) pss_nil)
      (pss_cons (ps_set (i := 3) scPool.nd rfl (.inl rfl) pe_int)
      (C8.pss_cut (ps_if (pt_cmpR op_ge (pv 2) (pe_op op_pow pe_int pe_int) (nomark _))
        (pss_one (ps_set (i := 3) scPool.nd rfl (.inl rfl) (pe_op op_modN (pe_callTy call_int1 (by rfl) gInt (by decide +kernel) (pa_cons (pv 2) pa_nil)) (pe_op op_powW (pe_op op_pow pe_int pe_int) pe_int)))) pss_nil)
      (pss_one (ps_ret (pe_disp (pps_cons pe_str (pv 3) (pps_cons pe_str (pe_op op_modN (pe_callTy call_int1 (by rfl) gInt (by decide +kernel) (pa_cons (pv 2) pa_nil)) pe_int)
        (pps_cons pe_str (pe_op op_mul pe_int (pv 1)) pps_nil))) (by rfl) (by rfl) (fun z => by cases z) (by decide)))))))), ?_⟩
    refine ⟨fun σ' H' => H' = H ∧ ∃ z : Int, σ' = [some (.ref a), some (.int k), some (.int z), none], ?_, ?_⟩
    · refine ⟨_, rfl, _, rfl, a, _, rfl, .inl hs, _, _, rfl, rfl, _, rfl, ?_⟩
      refine ite2 (fun hk => ?_) fun hk => ⟨rfl, 0, rfl⟩
      have hk' : k < ((ns.map V.int).length : Int) := of_decide_eq_true hk
      obtain ⟨j, rfl⟩ := Int.eq_ofNat_of_zero_le k0
      have hj : j < ns.length := by simpa using hk'
      exact ⟨_, rfl, _, rfl, a, _, _, V.int (ns[j]'hj), rfl, rfl, hs, atI_nat (by simp [hj]), .inl ⟨_, rfl, rfl, _, rfl⟩⟩
    · rintro σ' H' ⟨rfl, z, rfl⟩
      refine ⟨fun σ' H2 => H2 = H' ∧ ∃ b : Int, σ' = [some (.ref a), some (.int k), some (.int z), some (.int b)], ?_, ?_⟩
      · refine ⟨_, rfl, _, _, rfl, rfl, ⟨by decide, by decide, by decide⟩, _, _, rfl, rfl, _, rfl, ?_⟩
        refine ite2 (fun _ => ?_) fun _ => ⟨rfl, 0, rfl⟩
        refine ⟨_, rfl, .inl ⟨_, rfl, _, _, rfl, rfl, ⟨by decide, by decide, by decide⟩, _, _, rfl, rfl, ?_, _, _, rfl, rfl, ?_, rfl, _, rfl⟩⟩
        · exact ⟨by decide +kernel, by decide, by decide⟩
        · show ((10 : Int) ^ 50) ^ 8 ≠ 0
          decide +kernel
      · rintro σ' H2 ⟨rfl, b, rfl⟩
        intro p np
        refine ⟨_, rfl, _, rfl, .inl ⟨_, rfl, _, _, rfl, rfl, (by show (2147483647 : Int) ≠ 0; decide), ?_⟩⟩
        refine ⟨_, rfl, _, _, rfl, rfl, .inl ⟨by decide, by decide⟩, ?_⟩
        refine ⟨upd_same, poolK b (z.fmod 2147483647) (7 * k), rfl, by show 3 ≤ 15; decide, ?_⟩
        have e : mergeK [] (poolK b (z.fmod 2147483647) (7 * k)) = poolK b (z.fmod 2147483647) (7 * k) := by
          simp [mergeK, putK, poolK, (kne nSC), (kne nBC), Ne.symm (kne nSC), Ne.symm (kne nBC), kne nBS, Ne.symm (kne nBS)]
        rw [e, upd_upd]
        exact q p _ _ _ np
end
end OR

set_option Elab.async false
set_option maxRecDepth 100000
set_option maxHeartbeats 4000000
set_option linter.all false
namespace OR
open PySem PySem.Spec PyProof.Rows L2 TS2
/-! ### the tuples and lists of a heap -/
def isTL : HO → Bool
  | .tup _ => true
  | .lst _ => true
  | _ => false
def TLat (H : Hp) (b : Addr) : Prop := ∃ o, H b = some o ∧ isTL o = true
noncomputable def tl (H : Hp) : Hp := res (TLat H) H
theorem tl_of {H : Hp} {b : Addr} {o : HO} (h : H b = some o) (t : isTL o = true) : tl H b = some o := (res_of ⟨o, h, t⟩).trans h
theorem tl_lst {H : Hp} {b : Addr} {xs : List V} (h : H b = some (.lst xs)) : tl H b = some (.lst xs) := tl_of h rfl
theorem tl_tup {H : Hp} {b : Addr} {xs : List V} (h : H b = some (.tup xs)) : tl H b = some (.tup xs) := tl_of h rfl
theorem tl_some {H : Hp} {b : Addr} {o : HO} (h : tl H b = some o) : H b = some o ∧ isTL o = true := by
  obtain ⟨⟨o', h', t⟩, e⟩ := res_some h
  rw [e] at h'
  cases h'
  exact ⟨e, t⟩
theorem tl_same {H : Hp} : Same (tl H) H := fun b o h => (tl_some h).1
theorem tl_kp {C : Addr → Prop} {H H' : Hp} (k : Kp C H H') (n : ∀ b o, C b → H b = some o → isTL o = false) : Same (tl H) (tl H') := fun b o h => by
  obtain ⟨e, t⟩ := tl_some h
  exact tl_of (k b o e fun c => by rw [n b o c e] at t; cases t) t
theorem tl_mono {H H' : Hp} (s : Same H H') : Same (tl H) (tl H') := tl_kp (C := fun _ => False) (Kp.of s) fun _ _ c => c.elim
noncomputable def tlx (D : Addr) (H : Hp) : Hp := res (fun b => b ≠ D) (tl H)
theorem tlx_of {H : Hp} {D b : Addr} {o : HO} (h : H b = some o) (t : isTL o = true) (n : b ≠ D) : tlx D H b = some o := (res_of (S := fun b => b ≠ D) n).trans (tl_of h t)
theorem tlx_tl {H : Hp} {D : Addr} : Same (tlx D H) (tl H) := res_same
/-- the pool moved on, all else stands -/
structure Adv (p : Addr) (H H' : Hp) : Prop where
  k : Kp (· = p) H H'
  p : PoolAt H' p
  f : ∀ b, H' b = none → H b = none
theorem Adv.tl {p : Addr} {H H' : Hp} (a : Adv p H H') (h : PoolAt H p) : Same (tl H) (tl H') := tl_kp a.k fun b o c e => by
  obtain ⟨_, _, _, hp⟩ := h
  subst c
  rw [hp] at e
  cases e
  rfl
theorem Adv.refl {p : Addr} {H : Hp} (h : PoolAt H p) : Adv p H H := ⟨Kp.refl _, h, fun _ e => e⟩
theorem Adv.trans {p : Addr} {H H1 H2 : Hp} (a : Adv p H H1) (b : Adv p H1 H2) : Adv p H H2 := ⟨a.k.trans b.k, b.p, fun c e => a.f c (b.f c e)⟩
theorem Adv.same {p : Addr} {H H1 H2 : Hp} (a : Adv p H H1) (s : Same H1 H2) : Adv p H H2 := ⟨a.k.trans (Kp.of s), by obtain ⟨x, y, z, h⟩ := a.p; exact ⟨x, y, z, s _ _ h⟩, fun c e => a.f c (s.free e)⟩
theorem Adv.at_ {p b : Addr} {H H' : Hp} {o : HO} (a : Adv p H H') (h : H b = some o) (hp : PoolAt H p) (t : isTL o = true) : H' b = some o := a.k b o h fun z => by
  obtain ⟨_, _, _, e⟩ := hp
  subst z
  rw [e] at h
  cases h
  cases t
theorem PoolAt.of {p : Addr} {H H' : Hp} (h : PoolAt H p) (s : Same H H') : PoolAt H' p := by obtain ⟨x, y, z, h⟩ := h; exact ⟨x, y, z, s _ _ h⟩
theorem draw_k {p : Addr} {m : Nat} {H : Hp} {Q : VK} {E : XK} (hp : PoolAt H p) (m1 : 1 ≤ m) (m2 : m < 1000000) (k : ∀ (d : Nat) (H' : Hp), d < m → Adv p H H' → Q (.int d) H') : spDraw [.ref p, .int m] H Q E := by
  obtain ⟨b, s, c, h⟩ := hp
  refine ⟨p, m, b, s, c, rfl, h, by omega, by omega, fun d b' s' c' d0 d1 => ?_⟩
  obtain ⟨n, rfl⟩ := Int.eq_ofNat_of_zero_le d0
  refine k n _ (by omega) ⟨fun x o e n => by rw [upd_ne n]; exact e, ⟨_, _, _, upd_same⟩, fun x e => ?_⟩
  by_cases z : x = p
  · rw [z, upd_same] at e; cases e
  · rw [upd_ne z] at e; exact e
/-! ### the rows of the law -/
def GoodW (z : Str) : Prop := isWord z = true ∧ z ≠ "in" ∧ z.length ≤ 8
end OR

set_option Elab.async false
set_option maxRecDepth 100000
set_option maxHeartbeats 8000000
set_option linter.all false
namespace OR
open PySem PySem.Spec PyProof.Rows L2 TS2
theorem pgw {kt : Kit} {R : Type} {f z : Str} (w : isWord z = true) (h : (f = "ask" ∧ z ∈ kt.asks) ∨ (f = "signal" ∧ z ∈ kt.sigs) ∨ (f = "slot" ∧ z ∈ kt.slots) ∨ (f = "source" ∧ (z ∈ kt.slots ∨ z = "in")) ∨ (f = "label" ∧ z ∈ kt.labels) ∨ (f = "gate" ∧ z ∈ kt.gates) ∨ f = "word") : PG kt f (.word z : Pt R) := by
  rcases h with ⟨rfl, h⟩ | ⟨rfl, h⟩ | ⟨rfl, h⟩ | ⟨rfl, h⟩ | ⟨rfl, h⟩ | ⟨rfl, h⟩ | rfl <;>
  exact ⟨w, (fun e => by first | exact h | exact absurd e (by decide +kernel)), (fun e => by first | exact h | exact absurd e (by decide +kernel)), (fun e => by first | exact h | exact absurd e (by decide +kernel)), (fun e => by first | exact h | exact absurd e (by decide +kernel)), (fun e => by first | exact h | exact absurd e (by decide +kernel)), (fun e => by first | exact h | exact absurd e (by decide +kernel)), by decide +kernel, by decide +kernel, by decide +kernel, by decide +kernel, by decide +kernel⟩
theorem good_leaf {kt : Kit} {d : Nat} {il : Bool} {w : Str} {ps : List (Pt (Row d))} (lo : LocalOk kt il w ps) (hk : kids ps = []) : Good kt (d + 1) il (w, ps) ∧ rsz (d + 1) (w, ps) = 1 := by
  refine ⟨⟨lo, fun z => absurd hk z, fun l hl => ?_⟩, ?_⟩
  · rw [show kids (w, ps).2 = [] from hk] at hl
    cases hl
  · show 1 + ((kids ps).map fun l => (l.map (rsz d)).sum).sum = 1
    rw [hk]
    rfl
theorem kids_words {R : Type} (ps : List Str) : kids (ps.map (Pt.word (R := R))) = [] := by
  unfold kids
  induction ps with
  | nil => rfl
  | cons z ps ih => simpa [kidsP] using ih
/-- a leaf row of these words -/
theorem leaf_words {kt : Kit} {d : Nat} {il : Bool} {w : Str} {ps : List Str} {fs : List Str} (e : fsOf w = fs) (f : (w, fs) ∈ ftab) (n : w ≠ "edit") (l : w = "leave" → il = true) (p : All2 (fun f z => PG kt f (.word z : Pt (Row d))) fs ps) : Good kt (d + 1) il (w, ps.map Pt.word) ∧ rsz (d + 1) (w, ps.map Pt.word) = 1 := by
  refine good_leaf ⟨by rw [e]; exact f, n, ?_, l⟩ (kids_words ps)
  rw [e]
  clear e f
  induction p with
  | nil => exact .nil
  | cons h t ih => exact .cons h ih
theorem areW_of {m : Nat} {ws : List Str} (ne : ws ≠ []) (l : ws.length ≤ m) (a : ∀ z ∈ ws, isWord z = true) (nd : ws.Nodup) : areW (m : Int) ws = true := by
  have p : 0 < ws.length := List.length_pos_iff.mpr ne
  unfold areW
  rw [uniq_all nd, decide_eq_true (by omega), decide_eq_true (by omega), decide_eq_true rfl]
  simp only [Bool.and_self, Bool.true_and, Bool.and_true, List.all_map, List.all_eq_true]
  exact fun z hz => a z hz

/-! ### what stands while rows are drawn: the pool, the names, the fuel -/
def nmL (la sl wo ids as bo : Addr) : List (Key × V) := [(.inr "labels", .ref la), (.inr "slots", .ref sl), (.inr "words", .ref wo), (.inr "ids", .ref ids), (.inr "asks", .ref as), (.inr "boxes", .ref bo)]
/-- the names stand at n -/
def Nm (H : Hp) (n : Addr) (kt : Kit) : Prop := ∃ la sl wo ids as bo : Addr, H n = some (.dK (nmL la sl wo ids as bo)) ∧ H la = some (.lst (kt.labels.map V.str)) ∧ H sl = some (.lst (kt.slots.map V.str)) ∧ H wo = some (.lst (kt.words.map V.str)) ∧ H ids = some (.lst (kt.gates.map V.str)) ∧ H as = some (.lst (kt.asks.map V.str)) ∧ H bo = some (.lst (kt.sigs.map V.str))
structure Kit.Nm (kt : Kit) : Prop where
  l : kt.labels.length = 3 ∧ kt.labels.Nodup ∧ ∀ z ∈ kt.labels, GoodW z
  s : kt.slots.length = 2 ∧ ∀ z ∈ kt.slots, GoodW z
  w : kt.words.length = 3 ∧ kt.words.Nodup ∧ ∀ z ∈ kt.words, GoodW z
  g : kt.gates.length = 2 ∧ ∀ z ∈ kt.gates, GoodW z
  a : kt.asks.length = 2 ∧ kt.asks.Nodup ∧ ∀ z ∈ kt.asks, GoodW z
  b : kt.sigs.length ≤ 1 ∧ ∀ z ∈ kt.sigs, GoodW z
theorem nm_kp {C : Addr → Prop} {H H' : Hp} {n : Addr} {kt : Kit} (h : Nm H n kt) (k : Kp C H H') (hn : ¬ C n) (hc : ∀ b o, C b → H b = some o → isTL o = false) : Nm H' n kt := by
  obtain ⟨la, sl, wo, ids, as, bo, h0, h1, h2, h3, h4, h5, h6⟩ := h
  have L : ∀ {x : Addr} {xs : List V}, H x = some (.lst xs) → H' x = some (.lst xs) := fun {x xs} e => k _ _ e fun c => by have := hc _ _ c e; cases this
  exact ⟨la, sl, wo, ids, as, bo, k _ _ h0 hn, L h1, L h2, L h3, L h4, L h5, L h6⟩
theorem Nm.same {H H' : Hp} {n : Addr} {kt : Kit} (h : Nm H n kt) (s : Same H H') : Nm H' n kt := nm_kp (C := fun _ => False) h (Kp.of s) (fun c => c) fun _ _ c => c.elim
theorem pool_no {H : Hp} {p b : Addr} {o : HO} (hp : PoolAt H p) (c : b = p) (e : H b = some o) : isTL o = false := by
  obtain ⟨_, _, _, h⟩ := hp
  subst c
  rw [h] at e
  cases e
  rfl
theorem Nm.adv {H H' : Hp} {p n : Addr} {kt : Kit} (h : Nm H n kt) (a : Adv p H H') (hp : PoolAt H p) (np : n ≠ p) : Nm H' n kt := nm_kp h a.k np fun _ _ => pool_no hp
section
variable {H : Hp} {n : Addr} {kt : Kit} (h : Nm H n kt)
include h
theorem Nm.labels : ∃ a, DGet H n (.str "labels") (some (.ref a)) ∧ H a = some (.lst (kt.labels.map V.str)) := by
  obtain ⟨la, sl, wo, ids, as, bo, h0, h1, _⟩ := h
  exact ⟨la, DGet.k (k := .inr "labels") h0, h1⟩
theorem Nm.slots : ∃ a, DGet H n (.str "slots") (some (.ref a)) ∧ H a = some (.lst (kt.slots.map V.str)) := by
  obtain ⟨la, sl, wo, ids, as, bo, h0, h1, h2, _⟩ := h
  exact ⟨sl, DGet.k (k := .inr "slots") h0, h2⟩
theorem Nm.words : ∃ a, DGet H n (.str "words") (some (.ref a)) ∧ H a = some (.lst (kt.words.map V.str)) := by
  obtain ⟨la, sl, wo, ids, as, bo, h0, h1, h2, h3, _⟩ := h
  exact ⟨wo, DGet.k (k := .inr "words") h0, h3⟩
theorem Nm.ids : ∃ a, DGet H n (.str "ids") (some (.ref a)) ∧ H a = some (.lst (kt.gates.map V.str)) := by
  obtain ⟨la, sl, wo, ids, as, bo, h0, h1, h2, h3, h4, _⟩ := h
  exact ⟨ids, DGet.k (k := .inr "ids") h0, h4⟩
theorem Nm.asks : ∃ a, DGet H n (.str "asks") (some (.ref a)) ∧ H a = some (.lst (kt.asks.map V.str)) := by
  obtain ⟨la, sl, wo, ids, as, bo, h0, h1, h2, h3, h4, h5, _⟩ := h
  exact ⟨as, DGet.k (k := .inr "asks") h0, h5⟩
theorem Nm.boxes : ∃ a, DGet H n (.str "boxes") (some (.ref a)) ∧ H a = some (.lst (kt.sigs.map V.str)) := by
  obtain ⟨la, sl, wo, ids, as, bo, h0, h1, h2, h3, h4, h5, h6⟩ := h
  exact ⟨bo, DGet.k (k := .inr "boxes") h0, h6⟩
end
def fuK (l : Nat) : List (Key × V) := [(.inr "left", .int l), (.inr "deep", .int 2)]
/-- pool and fuel moved on, all else stands -/
structure Adv2 (p u : Addr) (l : Nat) (H H' : Hp) : Prop where
  k : Kp (fun b => b = p ∨ b = u) H H'
  p : PoolAt H' p
  u : H' u = some (.dK (fuK l))
  f : ∀ b, H' b = none → H b = none
theorem two_no {H : Hp} {p u b : Addr} {l : Nat} {o : HO} (hp : PoolAt H p) (hu : H u = some (.dK (fuK l))) (c : b = p ∨ b = u) (e : H b = some o) : isTL o = false := by
  rcases c with c | c
  · exact pool_no hp c e
  · rw [c, hu] at e
    cases e
    rfl
section
variable {H H1 H2 : Hp} {p u : Addr} {l l1 l2 : Nat}
theorem Adv2.refl (hp : PoolAt H p) (hu : H u = some (.dK (fuK l))) : Adv2 p u l H H := ⟨Kp.refl _, hp, hu, fun _ e => e⟩
theorem Adv2.trans (a : Adv2 p u l1 H H1) (b : Adv2 p u l2 H1 H2) : Adv2 p u l2 H H2 := ⟨a.k.trans b.k, b.p, b.u, fun c e => a.f c (b.f c e)⟩
theorem Adv2.same (a : Adv2 p u l1 H H1) (s : Same H1 H2) : Adv2 p u l1 H H2 := ⟨a.k.trans (Kp.of s), a.p.of s, s _ _ a.u, fun c e => a.f c (s.free e)⟩
theorem Adv.two (a : Adv p H H1) (n : u ≠ p) (hu : H u = some (.dK (fuK l))) : Adv2 p u l H H1 := ⟨a.k.mono fun _ c => .inl c, a.p, a.k _ _ hu n, a.f⟩
theorem Adv2.adv (a : Adv2 p u l1 H H1) (b : Adv p H1 H2) (n : u ≠ p) : Adv2 p u l1 H H2 := a.trans (b.two n a.u)
theorem Adv2.tl (a : Adv2 p u l1 H H1) (hp : PoolAt H p) (hu : H u = some (.dK (fuK l))) : Same (tl H) (tl H1) := tl_kp a.k fun _ _ c e => two_no hp hu c e
theorem Adv2.at_ {b : Addr} {o : HO} (a : Adv2 p u l1 H H1) (hp : PoolAt H p) (hu : H u = some (.dK (fuK l))) (e : H b = some o) (t : isTL o = true) : H1 b = some o := a.k _ _ e fun c => by rw [two_no hp hu c e] at t; cases t
theorem fu_left (hu : H u = some (.dK (fuK l))) : DGet H u (.str "left") (some (.int l)) := DGet.k (k := .inr "left") hu
theorem fu_deep (hu : H u = some (.dK (fuK l))) : DGet H u (.str "deep") (some (.int 2)) := DGet.k (k := .inr "deep") hu
theorem fu_put (hu : H u = some (.dK (fuK l))) (l1 : Nat) : DPut H u (.str "left") (.int l1) (upd H u (.dK (fuK l1))) := DPut.k (k := .inr "left") hu (small1000 (by show 2 ≤ 1000; decide))
end
/-- what stands while rows with lists are drawn -/
structure W2 (H : Hp) (p n u : Addr) (kt : Kit) (l : Nat) : Prop where
  pl : PoolAt H p
  nm : Nm H n kt
  fu : H u = some (.dK (fuK l))
  np : n ≠ p
  nu : n ≠ u
  up : u ≠ p
theorem W2.adv2 {H H' : Hp} {p n u : Addr} {kt : Kit} {l l' : Nat} (w : W2 H p n u kt l) (a : Adv2 p u l' H H') : W2 H' p n u kt l' := ⟨a.p, nm_kp w.nm a.k (fun c => c.elim w.np w.nu) fun _ _ c e => two_no w.pl w.fu c e, a.u, w.np, w.nu, w.up⟩
theorem W2.adv {H H' : Hp} {p n u : Addr} {kt : Kit} {l : Nat} (w : W2 H p n u kt l) (a : Adv p H H') : W2 H' p n u kt l := w.adv2 (a.two w.up w.fu)
theorem W2.same {H H' : Hp} {p n u : Addr} {kt : Kit} {l : Nat} (w : W2 H p n u kt l) (s : Same H H') : W2 H' p n u kt l := w.adv2 ((Adv2.refl w.pl w.fu).same s)
/-! ### rows in the heap of tuples and lists -/
theorem row_wordsT {K : PySem.W.Frag} {H : Hp} {t : Addr} {w : Str} {ps : List Str} {d : Nat} (e : H t = some (.tup (.str w :: ps.map V.str))) : RowAt K (tl H) (d + 1) (w, ps.map Pt.word) (.ref t) := by
  refine ⟨t, ps.map V.str, rfl, SqT.of (tl_tup e), ?_⟩
  clear e
  induction ps with
  | nil => exact .nil
  | cons z ps ih => exact .cons rfl ih
/-- rows that are told: a list of its own -/
structure Rws (K : PySem.W.Frag) (H H' : Hp) (kt : Kit) (d m : Nat) (il : Bool) (r : Addr) (rows : List (Row d)) : Prop where
  n : H r = none
  at_ : ∃ xs, H' r = some (.lst xs) ∧ All2 (RowAt K (tl H') d) rows xs
  good : ∀ x ∈ rows, Good kt d il x
  sz : lsz d rows ≤ m
theorem wl_app {kt : Kit} {R : Type} {fs zs : List Str} {ps : List (Pt R)} {gs : List Str} (a : All2 (fun f z => PG kt f (.word z : Pt R)) fs zs) (c : All2 (PG kt) gs ps) : All2 (PG kt) (fs ++ gs) (zs.map Pt.word ++ ps) := by
  refine All2.app ?_ c
  induction a with
  | nil => exact .nil
  | cons h t ih => exact .cons h ih
theorem kids_appT {R : Type} (a b : List (Pt R)) : kids (a ++ b) = kids a ++ kids b := by unfold kids; rw [List.map_append, List.flatten_append]
theorem kids_wa {R : Type} {zs : List Str} {ps : List (Pt R)} : kids (zs.map Pt.word ++ ps) = kids ps := by rw [kids_appT, kids_words]; rfl
theorem lsz_app {d : Nat} (a b : List (Row d)) : lsz d (a ++ b) = lsz d a + lsz d b := by unfold lsz; rw [List.map_append, List.sum_append]
theorem lsz_one {d : Nat} (r : Row d) : lsz d [r] = rsz d r := by unfold lsz; simp
theorem lsz_cons {d : Nat} (r : Row d) (l : List (Row d)) : lsz d (r :: l) = rsz d r + lsz d l := by unfold lsz; simp
end OR

set_option Elab.async false
set_option maxRecDepth 100000
set_option maxHeartbeats 8000000
set_option linter.all false
namespace OR
open PySem PySem.Spec PyProof.Rows L2 TS2
abbrev AT := List (Str × Addr × List Str)
def ATk (T : AT) : List (Key × V) := T.map fun x => (.inr x.1, .ref x.2.1)
def ATm (T : AT) : List (Addr × HO) := T.map fun x => (x.2.1, .tup (x.2.2.map V.str))
def WsOk (m : Nat) (l : List Str) : Prop := (∀ z ∈ l, isWord z = true) ∧ l.Nodup ∧ 1 ≤ l.length ∧ l.length ≤ m
structure AGood (T : AT) (ns : List Str) : Prop where
  n : T.map (·.1) = ns
  w : ∀ x ∈ T, WsOk 4 x.2.2
abbrev ST := List (Str × Addr × Nat × Addr × List Str)
def STk (T : ST) : List (Key × V) := T.map fun x => (.inr x.1, .ref x.2.1)
def STm (T : ST) : List (Addr × HO) := T.map (fun x => (x.2.1, .tup [.int x.2.2.1, .ref x.2.2.2.1])) ++ T.map (fun x => (x.2.2.2.1, .tup (x.2.2.2.2.map V.str)))
structure SGood (T : ST) (ns : List Str) : Prop where
  n : T.map (·.1) = ns
  w : ∀ x ∈ T, WsOk 3 x.2.2.2.2 ∧ 1 ≤ x.2.2.1 ∧ x.2.2.1 ≤ 3
theorem valV_new {ns : List Str} {kvs : List (Key × V)} {z : Str} (e : kvs.map (·.1) = ns.map Sum.inr) (n : z ∉ ns) : valV kvs (Sum.inr z : Key) = none := by
  cases q : valV kvs (Sum.inr z : Key) with
  | none => rfl
  | some v =>
    have := valV_in q
    rw [e] at this
    obtain ⟨y, hy, e2⟩ := List.mem_map.mp this
    rw [Sum.inr.inj e2] at hy
    exact absurd hy n
theorem valV_mem {kvs : List (Key × V)} {k : Key} {v : V} (h : valV kvs k = some v) : (k, v) ∈ kvs := by
  induction kvs with
  | nil => cases h
  | cons p r ih =>
    by_cases e : p.1 = k
    · rw [valV_pos e] at h
      rw [← e, ← Option.some.inj h]
      exact List.mem_cons_self
    · rw [valV_neg e] at h
      exact List.mem_cons_of_mem _ (ih h)
theorem atk_keys {T : AT} {ns : List Str} (g : AGood T ns) : (ATk T).map (·.1) = ns.map Sum.inr := by
  rw [← g.n]
  unfold ATk
  simp
theorem stk_keys {T : ST} {ns : List Str} (g : SGood T ns) : (STk T).map (·.1) = ns.map Sum.inr := by
  rw [← g.n]
  unfold STk
  simp
theorem agood_more {T : AT} {ns : List Str} (g : AGood T ns) {z : Str} {t : Addr} {ws : List Str} (h : WsOk 4 ws) : AGood (T ++ [(z, t, ws)]) (ns ++ [z]) :=
  ⟨by rw [List.map_append, g.n]; rfl, fun x hx => by
    rcases List.mem_append.mp hx with hx | hx
    · exact g.w x hx
    · rw [List.mem_singleton.mp hx]; exact h⟩
theorem sgood_more {T : ST} {ns : List Str} (g : SGood T ns) {z : Str} {t u : Addr} {r : Nat} {ws : List Str} (h : WsOk 3 ws ∧ 1 ≤ r ∧ r ≤ 3) : SGood (T ++ [(z, t, r, u, ws)]) (ns ++ [z]) :=
  ⟨by rw [List.map_append, g.n]; rfl, fun x hx => by
    rcases List.mem_append.mp hx with hx | hx
    · exact g.w x hx
    · rw [List.mem_singleton.mp hx]; exact h⟩
theorem atk_put {T : AT} {ns : List Str} (g : AGood T ns) {z : Str} (n : z ∉ ns) {t : Addr} {ws : List Str} : putK (ATk T) (Sum.inr z : Key) (.ref t) = ATk (T ++ [(z, t, ws)]) := by
  rw [putK_new _ (valV_new (atk_keys g) n)]
  unfold ATk
  simp
theorem stk_put {T : ST} {ns : List Str} (g : SGood T ns) {z : Str} (n : z ∉ ns) {t u : Addr} {r : Nat} {ws : List Str} : putK (STk T) (Sum.inr z : Key) (.ref t) = STk (T ++ [(z, t, r, u, ws)]) := by
  rw [putK_new _ (valV_new (stk_keys g) n)]
  unfold STk
  simp
theorem take_nd {ns : List Str} (nd : ns.Nodup) {i : Nat} {z : Str} (h : ns[i]? = some z) : z ∉ ns.take i := fun hm => by
  obtain ⟨j, hj, e⟩ := List.mem_take_iff_getElem.mp hm
  have hi : i < ns.length := (List.getElem?_eq_some_iff.mp h).1
  have h2 : ns[i] = z := (List.getElem?_eq_some_iff.mp h).2
  have hj2 : j < ns.length := by omega
  have := (List.getElem_inj (h₀ := hj2) (h₁ := hi) nd).mp (e.trans h2.symm)
  omega
theorem atk_at {T : AT} {i : Nat} {v : V} (h : ((ATk T).map (·.2))[i]? = some v) : ∃ x, T[i]? = some x ∧ v = .ref x.2.1 := by
  unfold ATk at h
  rw [List.map_map, List.getElem?_map] at h
  cases e : T[i]? with
  | none => rw [e] at h; cases h
  | some x => rw [e] at h; exact ⟨x, rfl, (Option.some.inj h).symm⟩
theorem stk_at {T : ST} {i : Nat} {v : V} (h : ((STk T).map (·.2))[i]? = some v) : ∃ x, T[i]? = some x ∧ v = .ref x.2.1 := by
  unfold STk at h
  rw [List.map_map, List.getElem?_map] at h
  cases e : T[i]? with
  | none => rw [e] at h; cases h
  | some x => rw [e] at h; exact ⟨x, rfl, (Option.some.inj h).symm⟩
theorem len_words {ws : List Str} (h : ∀ z ∈ ws, isWord z = true) : ∀ z ∈ ws, z.length ≤ 1000 := fun z hz => by have := isWord_len (h z hz); omega
section
variable {K : PySem.W.Frag} {H : Hp}
/-- the tables drawn, as arguments -/
theorem asks_arg {T : AT} {ns : List Str} (g : AGood T ns) (w : ∀ z ∈ ns, isWord z = true) (l : ns.length ≤ 6) {d : Addr} (hd : H d = some (.dK (ATk T))) (tm : ∀ x ∈ ATm T, H x.1 = some x.2) : TabArg K H "asks" 6 (.ref d) (some (ATk T)) := by
  have lT : T.length = ns.length := by have := congrArg List.length g.n; rw [List.length_map] at this; exact this
  have lk : (ATk T).length = T.length := by unfold ATk; rw [List.length_map]
  refine .good (ns := ns) (bs := ns.map fun _ => true) hd (by omega) (fun H' k => ⟨atk_keys g, by rw [List.length_map]; omega, fun i v b h1 h2 => ?_, len_words w⟩) ⟨by rw [lk, lT]; omega, ?_⟩
  · obtain ⟨x, hx, rfl⟩ := atk_at h1
    rw [List.getElem?_map] at h2
    have hb : b = true := by
      cases e : ns[i]? with
      | none => rw [e] at h2; cases h2
      | some z => rw [e] at h2; exact (Option.some.inj h2).symm
    subst hb
    have hm := List.mem_of_getElem? hx
    obtain ⟨g1, gn, g2, g3⟩ := g.w x hm
    have hT := tm _ (List.mem_map.mpr ⟨x, hm, rfl⟩)
    have hT' := k _ _ hT (fun z => by have z : x.2.1 = d := z; rw [show x.2.1 = d from z] at hT; rw [hd] at hT; cases hT)
    have e := areW_of (m := 4) (fun z => by rw [z] at g2; exact absurd g2 (by decide)) (by omega) g1 gn
    refine .asks rfl ?_
    rw [← e]
    exact .tup (SqT.of hT') (len_words g1) (by omega)
  · unfold tabOk
    rw [List.all_eq_true]
    intro x hx
    obtain ⟨i, hi⟩ := List.getElem?_of_mem hx
    rw [List.getElem?_zip_eq_some] at hi
    rw [w _ (List.mem_of_getElem? hi.1)]
    have := List.mem_of_getElem? hi.2
    obtain ⟨z, _, e⟩ := List.mem_map.mp this
    rw [← e]
    rfl
theorem sigs_arg {T : ST} {ns : List Str} (g : SGood T ns) (w : ∀ z ∈ ns, isWord z = true) (l : ns.length ≤ 3) {d : Addr} (hd : H d = some (.dK (STk T))) (tm : ∀ x ∈ STm T, H x.1 = some x.2) : TabArg K H "signals" 3 (.ref d) (some (STk T)) := by
  have lT : T.length = ns.length := by have := congrArg List.length g.n; rw [List.length_map] at this; exact this
  have lk : (STk T).length = T.length := by unfold STk; rw [List.length_map]
  refine .good (ns := ns) (bs := ns.map fun _ => true) hd (by omega) (fun H' k => ⟨stk_keys g, by rw [List.length_map]; omega, fun i v b h1 h2 => ?_, len_words w⟩) ⟨by rw [lk, lT]; omega, ?_⟩
  · obtain ⟨x, hx, rfl⟩ := stk_at h1
    rw [List.getElem?_map] at h2
    have hb : b = true := by
      cases e : ns[i]? with
      | none => rw [e] at h2; cases h2
      | some z => rw [e] at h2; exact (Option.some.inj h2).symm
    subst hb
    have hm := List.mem_of_getElem? hx
    obtain ⟨⟨g1, gn, g2, g3⟩, g4, g5⟩ := g.w x hm
    have up : ∀ {y : Addr} {xs : List V}, H y = some (.tup xs) → H' y = some (.tup xs) := fun {y xs} q => k _ _ q (fun z => by have z : y = d := z; rw [z, hd] at q; cases q)
    have hT := up (tm _ (List.mem_append_left _ (List.mem_map.mpr ⟨x, hm, rfl⟩)))
    have hU := up (tm _ (List.mem_append_right _ (List.mem_map.mpr ⟨x, hm, rfl⟩)))
    have e := areW_of (m := 3) (fun z => by rw [z] at g2; exact absurd g2 (by decide)) (by omega) g1 gn
    have e2 : (decide (1 ≤ ((x.2.2.1 : Nat) : Int)) && decide (((x.2.2.1 : Nat) : Int) ≤ 3)) = true := by
      rw [decide_eq_true (by omega), decide_eq_true (by omega)]
      rfl
    have w3 : WordsIs K H' 3 (.ref x.2.2.2.1) true := by
      rw [← e]
      exact .tup (SqT.of hU) (len_words g1) (by omega)
    have r3 : RoomIs (.int x.2.2.1) true := by
      rw [← e2]
      exact .int _
    exact .sig (br := true) (bw := true) (by decide +kernel) (SqT.of hT) r3 w3
  · unfold tabOk
    rw [List.all_eq_true]
    intro x hx
    obtain ⟨i, hi⟩ := List.getElem?_of_mem hx
    rw [List.getElem?_zip_eq_some] at hi
    rw [w _ (List.mem_of_getElem? hi.1)]
    have := List.mem_of_getElem? hi.2
    obtain ⟨z, _, e⟩ := List.mem_map.mp this
    rw [← e]
    rfl
end
end OR

set_option Elab.async false
set_option maxRecDepth 100000
set_option maxHeartbeats 4000000
set_option linter.all false
/-! dicts with text keys whose values are data, compared -/
namespace L2
open PySem PySem.Spec PyProof.Rows
def hitR (dv : V → PyData) (ls : List (Key × V)) : List (Key × V) → Bool
  | [] => true
  | p :: r => match valV ls p.1 with
    | none => false
    | some u => PyData.eqv (dv p.2) (dv u) && hitR dv ls r
theorem hits_data {X : Cx} {pins : List (Addr × Obj)} {σ : St} {H : Hp} {s : Shared} (I : Inv X pins σ H s) {A : Around} (hu : A.units + 64 < cLine) {dv : V → PyData} {ls : List (Key × V)} {vb : List (Key × Value)} (rb : KV ls vb) (gb : ∀ k u, valV ls k = some u → Dp X.K H u (dv u) ∧ SeqAt.shaped (dv u) = true) {ks : List (Key × V)} {va : List (Key × Value)} (ra : KV ks va) :
    (∀ p ∈ ks, Dp X.K H p.2 (dv p.2) ∧ SeqAt.shaped (dv p.2) = true) → PySem.W.KeqHits A s vb va (hitR dv ls ks) := by
  unfold KV at ra
  induction ra with
  | nil => exact fun _ => .nil
  | @cons p q ps qs h t ih =>
    intro hp
    obtain ⟨key, v⟩ := q
    obtain ⟨h1, h2⟩ := h
    have h1 : p.1 = key := h1
    subst h1
    have rr := rb.val p.1
    show PySem.W.KeqHits A s vb ((p.1, v) :: qs) (match valV ls p.1 with
      | none => false
      | some u => PyData.eqv (dv p.2) (dv u) && hitR dv ls ps)
    cases e : valV ls p.1 with
    | none =>
      rw [e] at rr
      exact .miss (RelO.none_of rr)
    | some u =>
      rw [e] at rr
      obtain ⟨y, hy, ry⟩ := rr.some_of
      obtain ⟨d1, s1⟩ := hp p List.mem_cons_self
      obtain ⟨d2, s2⟩ := gb _ _ e
      obtain ⟨as, r1⟩ := Dp.reads I _ _ _ d1 h2
      obtain ⟨bs, r2⟩ := Dp.reads I _ _ _ d2 ry
      refine .hit hy (SeqAt.eqAt_reads _ _ A s _ _ as bs r1 r2 (SeqAt.canLay_of_shaped s1) (SeqAt.canLay_of_shaped s2) (SeqAt.room_of_shaped s1 hu)) (ih fun p' hm => hp p' (List.mem_cons_of_mem _ hm))
/-- d == e, d != e -/
def rDictD (neg : Bool) (K : PySem.W.Frag) : R2 := fun x y H Q => ∃ (a b : Addr) (ks ls : List (Key × V)) (dv : V → PyData), x = .ref a ∧ y = .ref b ∧ H a = some (.dK ks) ∧ H b = some (.dK ls) ∧ (∀ p ∈ ks, Dp K H p.2 (dv p.2) ∧ SeqAt.shaped (dv p.2) = true) ∧ (∀ k u, valV ls k = some u → Dp K H u (dv u) ∧ SeqAt.shaped (dv u) = true) ∧
  Q (.bl (xor neg (decide (ks.length = ls.length) && hitR dv ls ks))) H
section
variable {X : Cx}
theorem op_eqDD (hu : X.A.units + 65 < cLine) : OpR X (compareOp .Eq) (rDictD false X.K) := by
  rintro pins s σ H x y v u Q I rx ry ⟨a, b, ks, ls, dv, rfl, rfl, ea, eb, ga, gb, q⟩
  cases rx
  cases ry
  obtain ⟨_, na, va, ra, da⟩ := (show ObjOk X.prog X.w H s.heap a (.dK ks) from I.hok a _ ea)
  obtain ⟨_, nb, vb, rb, db⟩ := (show ObjOk X.prog X.w H s.heap b (.dK ls) from I.hok b _ eb)
  have hits := hits_data I (A := X.A.in1) (by show X.A.units + 1 + 64 < cLine; omega) rb gb ra ga
  refine PySem.W.keq_eq (knd := mixKind X.prog X.w) na nb da db (by omega) (fun _ => hits) ?_
  refine ⟨.bl _, H, I, rfl, ?_⟩
  rw [← ra.length, ← rb.length]
  have e : xor false (decide (ks.length = ls.length) && hitR dv ls ks) = (ks.length == ls.length && hitR dv ls ks) := by
    rw [Bool.false_xor]
    rfl
  rw [← e]
  exact q
theorem op_neDD (hu : X.A.units + 65 < cLine) : OpR X (compareOp .NotEq) (rDictD true X.K) := by
  rintro pins s σ H x y v u Q I rx ry ⟨a, b, ks, ls, dv, rfl, rfl, ea, eb, ga, gb, q⟩
  cases rx
  cases ry
  obtain ⟨_, na, va, ra, da⟩ := (show ObjOk X.prog X.w H s.heap a (.dK ks) from I.hok a _ ea)
  obtain ⟨_, nb, vb, rb, db⟩ := (show ObjOk X.prog X.w H s.heap b (.dK ls) from I.hok b _ eb)
  have hits := hits_data I (A := X.A.in1) (by show X.A.units + 1 + 64 < cLine; omega) rb gb ra ga
  refine PySem.W.keq_ne (knd := mixKind X.prog X.w) na nb da db (by omega) (fun _ => hits) ?_
  refine ⟨.bl _, H, I, rfl, ?_⟩
  rw [← ra.length, ← rb.length]
  have e : xor true (decide (ks.length = ls.length) && hitR dv ls ks) = !(ks.length == ls.length && hitR dv ls ks) := by
    rw [Bool.true_xor]
    rfl
  rw [← e]
  exact q
theorem lt65 {n : Nat} {A : Around} (hr : Room n A) : A.units + 65 < cLine := by have := hr.un; omega
end
end L2

set_option Elab.async false
set_option maxRecDepth 100000
set_option maxHeartbeats 8000000
set_option linter.all false
namespace OR
open PySem PySem.Spec PyProof.Rows L2 TS2
/-- a dict comprehension over what is walked -/
theorem dc_it {J : It} {n : Nat} {G : Hp → Prop} {Y : Nat → Hp → V → Hp → Prop} (w : Walk J n G Y) {g : TG} {tt : TT} {tk tv : TE} {vs : List Nat} {σ : L2.St} {H1 : Hp} {D : Addr} {Qd : Hp → Prop} (Pv : Nat → Hp → Prop) (h0 : Pv 0 (upd H1 D (.dK []))) (hG : ∀ i H, i ≤ n → Pv i H → G H)
    (hs : ∀ i x H H', i < n → Pv i H → Y i H x H' → g x (wipe σ vs) H' fun σ2 H2 => wipe σ2 vs = wipe σ vs ∧ tt σ2 H2 fun b H3 => if b = true then tk σ2 H3 fun y H4 => tv σ2 H4 fun z H5 => ∃ kvs k, y = kV k ∧ H5 D = some (.dK kvs) ∧ kvs.length < sizeLine ∧ Pv (i + 1) (upd H5 D (.dK (putK kvs k z))) else Pv (i + 1) H3) (hd : ∀ H, Pv n H → Qd H) :
    ∃ W : Nat → Nat → Hp → Prop, (∃ m, W 0 m (upd H1 D (.dK []))) ∧ ∀ i m H, W i m H → (J.stop i H ∧ Qd H) ∨ (J.go i H ∧ ∃ Nx : Hp → Prop, (∀ H', Nx H' → ∃ m', m' < m ∧ W (i + 1) m' H') ∧ ∀ x H', J.yld i H x H' → g x (wipe σ vs) H' fun σ2 H2 => wipe σ2 vs = wipe σ vs ∧ tt σ2 H2 fun b H3 => if b = true then tk σ2 H3 fun y H4 => tv σ2 H4 fun z H5 => ∃ kvs k, y = kV k ∧ H5 D = some (.dK kvs) ∧ kvs.length < sizeLine ∧ Nx (upd H5 D (.dK (putK kvs k z))) else Nx H3) := by
  refine ⟨fun i m H => m = n - i ∧ i ≤ n ∧ Pv i H, ⟨n, by simp, Nat.zero_le _, h0⟩, ?_⟩
  rintro i m H ⟨rfl, le, p⟩
  have q := hG i H le p
  rcases Nat.lt_or_ge i n with lt | ge
  · exact Or.inr ⟨w.goes i H lt q, Pv (i + 1), fun H' p' => ⟨n - (i + 1), by omega, rfl, lt, p'⟩, fun x H' y => hs i x H H' lt p (w.yields i H x H' lt q y)⟩
  · obtain rfl : i = n := by omega
    exact Or.inl ⟨w.stops H q, hd H p⟩
def spTab (K : PySem.W.Frag) (ak : Bool) (d : Nat) : Sp := fun vs H Q _ => ∃ (p : Addr) (ka ks : List (Key × V)) (vi : V) (rows : List (Row d)), vs = [.ref p] ∧ PgAt K H p ka ks vi d rows ∧ ∀ (H' : Hp) (D : Addr), Same H H' → H D = none → H' D = some (.dK (if ak = true then ka else ks)) → Q (.ref D) H'
def spInputs (K : PySem.W.Frag) (d : Nat) : Sp := fun vs H Q _ => ∃ (p : Addr) (ka ks : List (Key × V)) (vi : V) (rows : List (Row d)), vs = [.ref p] ∧ PgAt K H p ka ks vi d rows ∧ Q vi H
def spLen (K : PySem.W.Frag) (d : Nat) : Sp := fun vs H Q _ => ∃ (p : Addr) (ka ks : List (Key × V)) (vi : V) (rows : List (Row d)), vs = [.ref p] ∧ PgAt K H p ka ks vi d rows ∧ Q (.int (lsz d rows : Nat)) H
/-- three lists of names -/
def NamesAt (H : Hp) (D : Addr) (ys zs gs : List Str) (a b c : Addr) : Prop := H D = some (.dK [(.inr "labels", .ref a), (.inr "slots", .ref b), (.inr "gates", .ref c)]) ∧ H a = some (.lst (ys.map V.str)) ∧ H b = some (.lst (zs.map V.str)) ∧ H c = some (.lst (gs.map V.str))
structure NamesFor (d : Nat) (rows : List (Row d)) (ys zs gs : List Str) : Prop where
  y : ys.Perm (uniq (namesAll ["label", "labels"] (flatL d rows)))
  z : zs.Perm ((uniq (namesAll ["slot", "source"] (flatL d rows))).filter fun z : Str => decide (z ≠ "in"))
  g : gs.Perm (uniq (namesAll ["gate", "edit"] (flatL d rows)))
  sy : sortedS ys = true
  sz : ∃ zs' : List Str, sortedS zs' = true ∧ zs = zs'.filter fun z : Str => decide (z ≠ "in")
  sg : sortedS gs = true
def spNames (K : PySem.W.Frag) (d : Nat) : Sp := fun vs H Q _ => ∃ (p : Addr) (ka ks : List (Key × V)) (vi : V) (rows : List (Row d)), vs = [.ref p] ∧ PgAt K H p ka ks vi d rows ∧ ∀ (H' : Hp) (D a b c : Addr) (ys zs gs : List Str), Same H H' → H D = none → H a = none → H b = none → H c = none → NamesAt H' D ys zs gs a b c → NamesFor d rows ys zs gs → Q (.ref D) H'
theorem upd_commQ {H : Hp} {x y : Addr} {u v : HO} (n : x ≠ y) : upd (upd H x u) y v = upd (upd H y v) x u := by
  funext b
  unfold upd
  by_cases h1 : b = y
  · by_cases h2 : b = x
    · exact absurd (h2.symm.trans h1) n
    · simp [h1, n.symm]
  · by_cases h2 : b = x
    · simp [h2, n]
    · simp [h1, h2]
/-- the table of names -/
def nmK (a b c : Addr) : List (Key × V) := [(.inr "labels", .ref a), (.inr "slots", .ref b), (.inr "gates", .ref c)]
/-- how far its copy is -/
def NmI (H H' : Hp) (D : Addr) (L1 L2 L3 : List V) (i : Nat) : Prop := ∃ a b c, H' D = some (.dK ((nmK a b c).take i)) ∧ (1 ≤ i → H a = none ∧ H' a = some (.lst L1)) ∧ (2 ≤ i → H b = none ∧ H' b = some (.lst L2)) ∧ (3 ≤ i → H c = none ∧ H' c = some (.lst L3))
theorem NmI.zero {H H' : Hp} {D : Addr} {L1 L2 L3 : List V} (h : H' D = some (.dK [])) : NmI H H' D L1 L2 L3 0 := ⟨0, 0, 0, h, fun z => absurd z (by omega), fun z => absurd z (by omega), fun z => absurd z (by omega)⟩
theorem NmI.done {H H' : Hp} {D : Addr} {L1 L2 L3 : List V} (h : NmI H H' D L1 L2 L3 3) : ∃ a b c, H a = none ∧ H b = none ∧ H c = none ∧ H' D = some (.dK (nmK a b c)) ∧ H' a = some (.lst L1) ∧ H' b = some (.lst L2) ∧ H' c = some (.lst L3) := by
  obtain ⟨a, b, c, h0, h1, h2, h3⟩ := h
  exact ⟨a, b, c, (h1 (by omega)).1, (h2 (by omega)).1, (h3 (by omega)).1, h0, (h1 (by omega)).2, (h2 (by omega)).2, (h3 (by omega)).2⟩
theorem NmI.step {H H' : Hp} {D nt na nb nc : Addr} {L1 L2 L3 : List V} {i : Nat} {kx : Key} {vx : V} {od : Obj} (I : NmI H H' D L1 L2 L3 i) (nD : D ≠ nt) (nD0 : H D = none) (hi : i < 3) (hk : (nmK na nb nc)[i]? = some (kx, vx)) (l1 : H na = some (.lst L1)) (l2 : H nb = some (.lst L2)) (l3 : H nc = some (.lst L3)) (f1 : H' nt = some (.frz od (.dK (nmK na nb nc)))) (hnt : H nt = some (.dK (nmK na nb nc))) (rd : ∀ {u : Addr} {o : HO}, u ≠ nt → H u = some o → H' u = some o) :
    ∃ (u : Addr) (L : List V), valV (nmK na nb nc) kx = some (.ref u) ∧ H' u = some (.lst L) ∧ ∀ t, H' t = none → ∃ kvs, upd H' t (.lst L) D = some (.dK kvs) ∧ kvs.length < sizeLine ∧ NmI H (upd (upd H' t (.lst L)) D (.dK (putK kvs kx (.ref t)))) D L1 L2 L3 (i + 1) := by
  have ne : ∀ {u : Addr} {L : List V}, H u = some (.lst L) → u ≠ nt := fun {u L} e z => by rw [z, hnt] at e; cases e
  have nw : ∀ {t : Addr}, H' t = none → H t = none := fun {t} e => by
    cases z : H t with
    | none => rfl
    | some o =>
      by_cases z2 : t = nt
      · subst z2; rw [f1] at e; cases e
      · rw [rd z2 z] at e; cases e
  obtain ⟨a, b, c, h0, h1, h2, h3⟩ := I
  have sz : ∀ m, m ≤ 3 → m < sizeLine := fun m h => small1000 (by omega)
  have nt' : ∀ {t : Addr}, H' t = none → D ≠ t := fun {t} e z => by rw [← z, h0] at e; cases e
  have rest : ∀ {t u : Addr} {L L' : List V} {o : HO}, H' t = none → (H u = none ∧ H' u = some (.lst L')) → D ≠ u → H u = none ∧ upd (upd H' t (.lst L)) D o u = some (.lst L') := fun {t u L L' o} e h n => ⟨h.1, by rw [upd_ne n.symm, upd_ne (fun z => by rw [z, e] at h; cases h.2)]; exact h.2⟩
  have fresh : ∀ {t : Addr} {L : List V} {o : HO}, H' t = none → H t = none ∧ upd (upd H' t (.lst L)) D o t = some (.lst L) := fun {t L o} e => ⟨nw e, by rw [upd_ne (nt' e).symm, upd_same]⟩
  have nDl : ∀ {u : Addr} {L : List V}, H' u = some (.lst L) → D ≠ u := fun {u L} e z => by rw [← z, h0] at e; cases e
  obtain rfl | rfl | rfl : i = 0 ∨ i = 1 ∨ i = 2 := by omega
  · obtain ⟨rfl, rfl⟩ := Prod.mk.inj (Option.some.inj hk)
    refine ⟨na, L1, rfl, rd (ne l1) l1, fun t nt2 => ⟨_, by rw [upd_ne (nt' nt2)]; exact h0, sz _ (by show 0 ≤ 3; decide), t, b, c, upd_same, fun _ => fresh nt2, fun z => absurd z (by omega), fun z => absurd z (by omega)⟩⟩
  · obtain ⟨rfl, rfl⟩ := Prod.mk.inj (Option.some.inj hk)
    have q1 := h1 (by omega)
    refine ⟨nb, L2, rfl, rd (ne l2) l2, fun t nt2 => ⟨_, by rw [upd_ne (nt' nt2)]; exact h0, sz _ (by show 1 ≤ 3; decide), a, t, c, upd_same, fun _ => rest nt2 q1 (nDl q1.2), fun _ => fresh nt2, fun z => absurd z (by omega)⟩⟩
  · obtain ⟨rfl, rfl⟩ := Prod.mk.inj (Option.some.inj hk)
    have q1 := h1 (by omega)
    have q2 := h2 (by omega)
    refine ⟨nc, L3, rfl, rd (ne l3) l3, fun t nt2 => ⟨_, by rw [upd_ne (nt' nt2)]; exact h0, sz _ (by show 2 ≤ 3; decide), a, b, t, upd_same, fun _ => rest nt2 q1 (nDl q1.2), fun _ => rest nt2 q2 (nDl q2.2), fun _ => fresh nt2⟩⟩
section
variable {P : Program} {w : World} {K : PySem.W.Frag} {mg : Str → Option Value} {base : Heap}
theorem ok_asks {d : Nat} {f : Addr} {fd : FuncData} (F : FnP K "asks" "Program.asks" s_Program_asks f fd) (T : Tx w K mg) : FnOk P w K mg base CX0 1 f fd p_Program_asks (spTab K true d) := by
  refine F.ok sc_Program_asks (fun vs H Q E h => ?_) (fun cdv A outer s H vs Q E hr h => ?_)
  · obtain ⟨p, _, _, _, _, rfl, _⟩ := h
    rfl
  · obtain ⟨p, ka, ks, vi, rows, rfl, ⟨Hr, dx, ⟨a, s', l, pl, nt, dx2, ys, h0, h1, h2, hrest⟩, Sr⟩, k⟩ := h
    refine ⟨_, PSs.nox (pss_one (ps_ret (pe_callTy call_dictD (by rfl) T.b_dict (by decide +kernel) (pa_cons (pe_fld (pv 0) rfl) pa_nil)))), ?_⟩
    exact ⟨_, rfl, p, _, dx, _, .ref a, rfl, Sr _ _ h0, T.c_Program, T.n_Program_ask_table, rfl, a, _, rfl, .inl (Sr _ _ h1), fun D nD => k _ D (Same.new nD) nD upd_same⟩
theorem ok_signals {d : Nat} {f : Addr} {fd : FuncData} (F : FnP K "signals" "Program.signals" s_Program_signals f fd) (T : Tx w K mg) : FnOk P w K mg base CX0 1 f fd p_Program_signals (spTab K false d) := by
  refine F.ok sc_Program_signals (fun vs H Q E h => ?_) (fun cdv A outer s H vs Q E hr h => ?_)
  · obtain ⟨p, _, _, _, _, rfl, _⟩ := h
    rfl
  · obtain ⟨p, ka, ks, vi, rows, rfl, ⟨Hr, dx, ⟨a, s', l, pl, nt, dx2, ys, h0, h1, h2, hrest⟩, Sr⟩, k⟩ := h
    refine ⟨_, PSs.nox (pss_one (ps_ret (pe_callTy call_dictD (by rfl) T.b_dict (by decide +kernel) (pa_cons (pe_fld (pv 0) rfl) pa_nil)))), ?_⟩
    exact ⟨_, rfl, p, _, dx, _, .ref s', rfl, Sr _ _ h0, T.c_Program, T.n_Program_signal_table, rfl, s', _, rfl, .inl (Sr _ _ h2), fun D nD => k _ D (Same.new nD) nD upd_same⟩
theorem ok_inputs {d : Nat} {f : Addr} {fd : FuncData} (F : FnP K "inputs" "Program.inputs" s_Program_inputs f fd) (T : Tx w K mg) : FnOk P w K mg base CX0 1 f fd p_Program_inputs (spInputs K d) := by
  refine F.ok sc_Program_inputs (fun vs H Q E h => ?_) (fun cdv A outer s H vs Q E hr h => ?_)
  · obtain ⟨p, _, _, _, _, rfl, _⟩ := h
    rfl
  · obtain ⟨p, ka, ks, vi, rows, rfl, ⟨Hr, dx, ⟨a, s', l, pl, nt, dx2, ys, h0, hrest⟩, Sr⟩, k⟩ := h
    refine ⟨_, PSs.nox (pss_one (ps_ret (pe_fld (pv 0) rfl))), ?_⟩
    exact ⟨_, rfl, p, _, dx, _, vi, rfl, Sr _ _ h0, T.c_Program, T.n_Program_input_words, rfl, k⟩
theorem ok_plen {d : Nat} {f : Addr} {fd : FuncData} (F : FnP K "__len__" "Program.__len__" s_Program___len__ f fd) (T : Tx w K mg) : FnOk P w K mg base CX0 1 f fd p_Program___len__ (spLen K d) := by
  refine F.ok sc_Program___len__ (fun vs H Q E h => ?_) (fun cdv A outer s H vs Q E hr h => ?_)
  · obtain ⟨p, _, _, _, _, rfl, _⟩ := h
    rfl
  · obtain ⟨p, ka, ks, vi, rows, rfl, ⟨Hr, dx, ⟨a, s', l, pl, nt, dx2, ys, h0, h1, h2, h3, h4, sh, h5, h6⟩, Sr⟩, k⟩ := h
    obtain ⟨a1, a2, a3, a4, a5, a6, a7, F', pa, ce, cs, pat⟩ := h5
    refine ⟨_, PSs.nox (pss_one (ps_ret (pe_callB call_len_seq (by rfl) T.b_len PySem.boot_len (pa_cons (pe_fld (pe_fld (pv 0) rfl) rfl) pa_nil)))), ?_⟩
    refine ⟨_, rfl, p, _, dx, _, .ref pl, rfl, Sr _ _ h0, T.c_Program, T.n_Program_plan, rfl, pl, _, dx2, _, .ref a1, rfl, Sr _ _ pat.ob, T.c_Plan, T.n_Plan_flat, rfl, a1, F', rfl, .inl (SqL.of (Sr _ _ pat.h1)), ?_⟩
    rw [← pat.fl.len, fl_plan sh, flatL_len]
    exact k
theorem ok_names {d : Nat} {f : Addr} {fd : FuncData} (F : FnP K "names" "Program.names" s_Program_names f fd) (T : Tx w K mg) : FnOk P w K mg base CX0 1 f fd p_Program_names (spNames K d) := by
  refine F.ok sc_Program_names (fun vs H Q E h => ?_) (fun cdv A outer s H vs Q E hr h => ?_)
  · obtain ⟨p, _, _, _, _, rfl, _⟩ := h
    rfl
  · obtain ⟨p, ka, ks, vi, rows, rfl, ⟨Hr, dx, ⟨a, s', l, pl, nt, dx2, ys, h0, h1, h2, h3, h4, sh, h5, na, nb, nc, ns, ms, gs, n0, n1, n2, n3, pm1, pm2, pm3, so1, so2, so3⟩, Sr⟩, k⟩ := h
    have hu := hu_of hr
    refine ⟨_, PSs.nox (pss_one (ps_ret (pe_lock (pe_dc (own := [("kind", 1)]) (g := (gName 1)) (by rfl) sc_Program_names.nd (pi_keys (pe_fld (pv 0) rfl)) (blkOk_by (N := n_Program_names) (sc := defScope s_Program_names) (by decide +kernel)) (fun _ _ _ _ _ => pg_name (i := 1) sc_Program_names.nd rfl (.inl rfl)) (fun _ _ _ _ _ => pts_nil) (fun _ _ _ _ _ => (pv 1)) (fun _ _ _ _ _ => (pe_callTy (show CallR _ (.type "list") (fun xs H Q => ∃ p ys, xs = [.ref p] ∧ (SqL K H p ys ∨ SqT K H p ys) ∧ ∀ l, H l = none → Q (.ref l) (upd H l (.lst ys))) from call_list_of) (by rfl) T.b_list (by decide +kernel) (pa_cons (pe_dget hu (show PE _ _ (tFld K (tVar 0) "name_table") from pe_fld (pv 0) rfl) (pv 1) (fun _ _ => rfl)) pa_nil))))))), ?_⟩
    have hnt := Sr _ _ n0
    refine ⟨nt, _, hnt, trivial, fun od => ?_⟩
    have hp := Sr _ _ h0
    have l1 := Sr _ _ n1
    have l2 := Sr _ _ n2
    have l3 := Sr _ _ n3
    have e0 : upd (upd H nt (.frz od (.dK (nmK na nb nc)))) nt (.dK (nmK na nb nc)) = H := by
      rw [upd_upd]
      funext x
      unfold upd
      by_cases z : x = nt
      · rw [if_pos z, z]; exact hnt.symm
      · rw [if_neg z]
    have pn : p ≠ nt := fun z => by rw [z] at hp; rw [hnt] at hp; cases hp
    refine ⟨_, rfl, p, _, dx, _, .ref nt, rfl, by rw [upd_ne pn]; exact hp, T.c_Program, T.n_Program_name_table, rfl, nt, od, rfl, .inl ⟨_, upd_same, fun D nD => ?_⟩⟩
    have nDn : D ≠ nt := fun z => by rw [z, upd_same] at nD; cases nD
    have nD0 : H D = none := by rw [upd_ne nDn] at nD; exact nD
    refine dc_it (walk_keys (d := nt) (o := od) (kvs := nmK na nb nc)) (fun i H' => H' nt = some (.frz od (.dK (nmK na nb nc))) ∧ Same H (upd H' nt (.dK (nmK na nb nc))) ∧ NmI H H' D (ns.map V.str) ((ms.filter fun z : Str => decide (z ≠ "in")).map V.str) (gs.map V.str) i) ?_ (fun i H' hi q => q.1) (fun i x H1 H2 hi q y => ?_) (fun H' q => ?_)
    · refine ⟨by rw [upd_ne nDn.symm]; exact upd_same, ?_, NmI.zero upd_same⟩
      rw [upd_commQ nDn]
      show Same H (upd (upd (upd H nt (.frz od (.dK (nmK na nb nc)))) nt (.dK (nmK na nb nc))) D (.dK []))
      rw [e0]
      exact Same.new nD0
    · obtain ⟨rfl, kx, vx, hk, rfl⟩ := y
      obtain ⟨f1, sm, I⟩ := q
      have hi : i < 3 := hi
      have rd : ∀ {u : Addr} {o : HO}, u ≠ nt → H u = some o → H2 u = some o := fun {u o} ne e => by
        have := sm _ _ e
        rw [upd_ne ne] at this
        exact this
      obtain ⟨u, L, hkk, hu2, st⟩ := I.step nDn nD0 hi hk l1 l2 l3 f1 hnt rd
      refine ⟨rfl, ?_⟩
      refine ⟨_, rfl, ?_⟩
      refine ⟨_, rfl, p, _, dx, _, .ref nt, rfl, rd pn hp, T.c_Program, T.n_Program_name_table, rfl, ?_⟩
      refine ⟨_, rfl, nt, .ref u, rfl, .inl ⟨_, kx, .inr ⟨od, f1⟩, rfl, hkk.symm⟩, ?_⟩
      refine ⟨u, L, rfl, .inl (SqL.of hu2), fun t nt' => ?_⟩
      obtain ⟨kvs, g1, g2, g3⟩ := st t nt'
      have tn : t ≠ nt := fun z => by rw [z] at nt'; rw [f1] at nt'; cases nt'
      refine ⟨kvs, kx, rfl, g1, g2, ?_, ?_, g3⟩
      · rw [upd_ne nDn.symm, upd_ne tn.symm]; exact f1
      · intro z o e
        have hz := sm z o e
        by_cases e1 : z = nt
        · rw [e1, upd_same]; rw [e1, upd_same] at hz; exact hz
        · rw [upd_ne e1] at hz ⊢
          rw [upd_ne (fun e2 => by rw [e2, nD0] at e; cases e), upd_ne (fun e2 => by rw [e2, nt'] at hz; cases hz)]
          exact hz
    · obtain ⟨f1, sm, I⟩ := q
      refine ⟨f1, ?_⟩
      obtain ⟨a, b, c, i1, i2, i3, i4, i5, i6, i7⟩ := I.done
      have ne : ∀ {u : Addr}, H u = none → u ≠ nt := fun {u} e z => by rw [z] at e; rw [hnt] at e; cases e
      refine k _ D a b c ns (ms.filter fun z : Str => decide (z ≠ "in")) gs sm nD0 i1 i2 i3 ⟨?_, ?_, ?_, ?_⟩ ⟨pm1, pm2.filter _, pm3, so1, ⟨ms, so2, rfl⟩, so3⟩
      · rw [upd_ne nDn]; exact i4
      · rw [upd_ne (ne i1)]; exact i5
      · rw [upd_ne (ne i2)]; exact i6
      · rw [upd_ne (ne i3)]; exact i7
end
end OR

set_option Elab.async false
set_option maxRecDepth 100000
set_option maxHeartbeats 8000000
set_option linter.all false
namespace OR
open PySem PySem.Spec PyProof.Rows L2 TS2
/-- a good row is good for a kit with more -/
structure Kit.Sub (kt kt' : Kit) : Prop where
  a : ∀ z ∈ kt.asks, z ∈ kt'.asks
  s : ∀ z ∈ kt.sigs, z ∈ kt'.sigs
  sl : ∀ z ∈ kt.slots, z ∈ kt'.slots
  l : ∀ z ∈ kt.labels, z ∈ kt'.labels
  g : ∀ z ∈ kt.gates, z ∈ kt'.gates
theorem PG.sub {kt kt' : Kit} (h : kt.Sub kt') {R : Type} {f : Str} {p : Pt R} (g : PG kt f p) : PG kt' f p := by
  cases p with
  | word z =>
    obtain ⟨w, h1, h2, h3, h4, h5, h6, n1, n2, n3, n4, n5⟩ := g
    exact ⟨w, fun e => h.a _ (h1 e), fun e => h.s _ (h2 e), fun e => h.sl _ (h3 e), fun e => (h4 e).imp (h.sl _) id, fun e => h.l _ (h5 e), fun e => h.g _ (h6 e), n1, n2, n3, n4, n5⟩
  | words l => exact ⟨g.1, g.2.1, fun e z hz => h.l _ (g.2.2 e z hz)⟩
  | rows l => exact g
  | sides ls => exact g
theorem Good.sub {kt kt' : Kit} (h : kt.Sub kt') : ∀ (d : Nat) (il : Bool) (r : Row d), Good kt d il r → Good kt' d il r
  | 0, _, r, _ => nomatch r
  | d + 1, il, r, g => by
    obtain ⟨lo, kd, hk⟩ := g
    exact ⟨⟨lo.f, lo.e, lo.p.imp fun _ _ _ q => PG.sub h q, lo.l⟩, kd, fun l hl r' hr' => Good.sub h d _ r' (hk l hl r' hr')⟩
section
variable {K : PySem.W.Frag} {H : Hp}
theorem words_arg {i : Addr} {ws : List Str} (hi : H i = some (.tup (ws.map V.str))) (ne : ws ≠ []) (l : ws.length ≤ 3) (w : ∀ z ∈ ws, isWord z = true) (nd : ws.Nodup) : ∀ H', Same H H' → WordsIs K H' 3 (.ref i) true := fun H' S => by
  rw [← areW_of (m := 3) ne l w nd]
  exact .tup (SqT.of (S _ _ hi)) (len_words w) (by omega)
abbrev cP (K : PySem.W.Frag) : Addr := He.ga K "Program"
/-- a program is made of good rows -/
theorem made {kt : Kit} (ok : kt.Ok) {R : Addr} {va vg vi : V} {ys : List V} {rows : List (Row 5)} {Q : Addr → Hp → Prop} {E : XK} (aa : TabArg K H "asks" 6 va (some kt.ka)) (ag : TabArg K H "signals" 3 vg (some kt.ks)) (ai : ∀ H', Same H H' → WordsIs K H' 3 vi true) (hR : H R = some (.lst ys)) (hrows : All2 (RowAt K H 5) rows ys) (good : ∀ r ∈ rows, Good kt 5 false r) (few : lsz 5 rows ≤ 60)
    (k : ∀ (H' Hr : Hp) (x dx : Addr), Same H H' → H x = none → DraftOk K Hr x dx (cP K) kt.ka kt.ks vi 5 rows → Same Hr H' → (∀ y o, H y = some o → isT o = false → Hr y = none) → Q x H') :
    ∀ x dx, H x = none → H dx = none → dx ≠ x → spProgInit K 5 [.ref x, .ref R, va, vg, vi] (upd (upd H dx (.own x)) x (.ins (cP K) dx [])) (fun v H3 => v = .non ∧ Q x H3) E := fun x dx nx ndx nxd => by
  have S4 : Same H (upd H dx (.own x)) := Same.new ndx
  have nx4 : upd H dx (.own x) x = none := by rw [upd_ne nxd.symm]; exact nx
  have S5 : Same H (upd (upd H dx (.own x)) x (.ins (cP K) dx [])) := S4.trans (Same.new nx4)
  have hx : upd (upd H dx (.own x)) x (.ins (cP K) dx []) x = some (.ins (cP K) dx []) := upd_same
  have go := good_out ok good few
  generalize upd (upd H dx (.own x)) x (.ins (cP K) dx []) = H5 at S5 hx ⊢
  refine ⟨x, dx, .ref R, va, vg, vi, true, some kt.ka, some kt.ks, some rows, H, rfl, hx, nx, S5, by decide, ⟨aa, ag, ai, good_rows ok hR hrows good few⟩, fun part path e => ?_, fun _ ka ks rows' ea es er H' sv dr => ?_⟩
  · rw [go] at e; cases e
  · cases ea; cases es; cases er
    refine ⟨rfl, k H' _ x dx (fun b o e => sv b o (S5 _ _ e) (ne_of_none e nx)) nx dr res_same fun y o e ht => ?_⟩
    have e5 := S5 _ _ e
    cases z : res (Own H5 x) H' y with
    | none => rfl
    | some o' =>
      obtain ⟨own, _⟩ := res_some z
      rcases own with own | rfl
      · have := own _ e5
        rw [ht] at this
        cases this
      · exact absurd rfl (ne_of_none e nx)
end
/-! ### a name put into a table -/
theorem stk_set {T : ST} {ns : List Str} (g : SGood T ns) (nd : ns.Nodup) (z : Str) {t u : Addr} {r : Nat} {ws : List Str} (h : WsOk 3 ws ∧ 1 ≤ r ∧ r ≤ 3) : ∃ (T' : ST) (ns' : List Str), putK (STk T) (Sum.inr z : Key) (.ref t) = STk T' ∧ SGood T' ns' ∧ ns'.Nodup ∧ (∀ x ∈ ns, x ∈ ns') ∧ (∀ x ∈ ns', x ∈ ns ∨ x = z) ∧ ns'.length ≤ ns.length + 1 ∧
    ∀ y ∈ STm T', y ∈ STm T ∨ y = (t, HO.tup [.int r, .ref u]) ∨ y = (u, HO.tup (ws.map V.str)) := by
  by_cases c : z ∈ ns
  · let f : (Str × Addr × Nat × Addr × List Str) → (Str × Addr × Nat × Addr × List Str) := fun x => if x.1 = z then (x.1, t, r, u, ws) else x
    refine ⟨T.map f, ns, ?_, ⟨?_, fun x hx => ?_⟩, nd, fun _ h => h, fun _ h => .inl h, Nat.le_succ _, fun y hy => ?_⟩
    · have hk := stk_keys g
      unfold putK
      rw [if_pos]
      · unfold STk
        rw [List.map_map, List.map_map]
        refine List.map_congr_left fun x _ => ?_
        show (if (Sum.inr x.1 : Key) = Sum.inr z then _ else _) = _
        by_cases e : x.1 = z
        · rw [if_pos (by rw [e])]
          show _ = ((Sum.inr (f x).1 : Key), V.ref (f x).2.1)
          have : f x = (x.1, t, r, u, ws) := if_pos e
          rw [this]
        · rw [if_neg (fun q => e (Sum.inr.inj q))]
          show _ = ((Sum.inr (f x).1 : Key), V.ref (f x).2.1)
          have : f x = x := if_neg e
          rw [this]
      · rw [List.any_eq_true]
        have : (Sum.inr z : Key) ∈ (STk T).map (·.1) := by rw [hk]; exact List.mem_map.mpr ⟨z, c, rfl⟩
        obtain ⟨kv, h1, h2⟩ := List.mem_map.mp this
        exact ⟨kv, h1, decide_eq_true h2⟩
    · rw [← g.n, List.map_map]
      refine List.map_congr_left fun x _ => ?_
      show (f x).1 = x.1
      by_cases e : x.1 = z
      · have : f x = (x.1, t, r, u, ws) := if_pos e
        rw [this]
      · have : f x = x := if_neg e
        rw [this]
    · obtain ⟨y, hy, rfl⟩ := List.mem_map.mp hx
      by_cases e : y.1 = z
      · have : f y = (y.1, t, r, u, ws) := if_pos e
        rw [this]
        exact h
      · have : f y = y := if_neg e
        rw [this]
        exact g.w y hy
    · unfold STm at hy ⊢
      rcases List.mem_append.mp hy with hy | hy
      · obtain ⟨x, hx, rfl⟩ := List.mem_map.mp hy
        obtain ⟨y, hyT, rfl⟩ := List.mem_map.mp hx
        by_cases e : y.1 = z
        · have : f y = (y.1, t, r, u, ws) := if_pos e
          rw [this]
          exact .inr (.inl rfl)
        · have : f y = y := if_neg e
          rw [this]
          exact .inl (List.mem_append_left _ (List.mem_map.mpr ⟨y, hyT, rfl⟩))
      · obtain ⟨x, hx, rfl⟩ := List.mem_map.mp hy
        obtain ⟨y, hyT, rfl⟩ := List.mem_map.mp hx
        by_cases e : y.1 = z
        · have : f y = (y.1, t, r, u, ws) := if_pos e
          rw [this]
          exact .inr (.inr rfl)
        · have : f y = y := if_neg e
          rw [this]
          exact .inl (List.mem_append_right _ (List.mem_map.mpr ⟨y, hyT, rfl⟩))
  · refine ⟨T ++ [(z, t, r, u, ws)], ns ++ [z], stk_put g c, sgood_more g h, ?_, fun x hx => List.mem_append_left _ hx, fun x hx => ?_, by rw [List.length_append]; exact Nat.le_refl _, fun y hy => ?_⟩
    · rw [List.nodup_append]
      exact ⟨nd, by simp, fun x hx y hy e => c (by rw [List.mem_singleton.mp hy] at e; exact e ▸ hx)⟩
    · rcases List.mem_append.mp hx with h | h
      · exact .inl h
      · exact .inr (List.mem_singleton.mp h)
    · unfold STm at hy ⊢
      simp only [List.map_append, List.map_cons, List.map_nil, List.mem_append, List.mem_cons, List.not_mem_nil, or_false] at hy ⊢
      rcases hy with (h | h) | (h | h)
      · exact .inl (.inl h)
      · exact .inr (.inl h)
      · exact .inl (.inr h)
      · exact .inr (.inr h)
theorem atk_set {T : AT} {ns : List Str} (g : AGood T ns) (nd : ns.Nodup) (z : Str) {t : Addr} {ws : List Str} (h : WsOk 4 ws) : ∃ (T' : AT) (ns' : List Str), putK (ATk T) (Sum.inr z : Key) (.ref t) = ATk T' ∧ AGood T' ns' ∧ ns'.Nodup ∧ (∀ x ∈ ns, x ∈ ns') ∧ (∀ x ∈ ns', x ∈ ns ∨ x = z) ∧ ns'.length ≤ ns.length + 1 ∧
    ∀ y ∈ ATm T', y ∈ ATm T ∨ y = (t, HO.tup (ws.map V.str)) := by
  by_cases c : z ∈ ns
  · let f : (Str × Addr × List Str) → (Str × Addr × List Str) := fun x => if x.1 = z then (x.1, t, ws) else x
    refine ⟨T.map f, ns, ?_, ⟨?_, fun x hx => ?_⟩, nd, fun _ h => h, fun _ h => .inl h, Nat.le_succ _, fun y hy => ?_⟩
    · have hk := atk_keys g
      unfold putK
      rw [if_pos]
      · unfold ATk
        rw [List.map_map, List.map_map]
        refine List.map_congr_left fun x _ => ?_
        show (if (Sum.inr x.1 : Key) = Sum.inr z then _ else _) = _
        by_cases e : x.1 = z
        · rw [if_pos (by rw [e])]
          show _ = ((Sum.inr (f x).1 : Key), V.ref (f x).2.1)
          have : f x = (x.1, t, ws) := if_pos e
          rw [this]
        · rw [if_neg (fun q => e (Sum.inr.inj q))]
          show _ = ((Sum.inr (f x).1 : Key), V.ref (f x).2.1)
          have : f x = x := if_neg e
          rw [this]
      · rw [List.any_eq_true]
        have : (Sum.inr z : Key) ∈ (ATk T).map (·.1) := by rw [hk]; exact List.mem_map.mpr ⟨z, c, rfl⟩
        obtain ⟨kv, h1, h2⟩ := List.mem_map.mp this
        exact ⟨kv, h1, decide_eq_true h2⟩
    · rw [← g.n, List.map_map]
      refine List.map_congr_left fun x _ => ?_
      show (f x).1 = x.1
      by_cases e : x.1 = z
      · have : f x = (x.1, t, ws) := if_pos e
        rw [this]
      · have : f x = x := if_neg e
        rw [this]
    · obtain ⟨y, hy, rfl⟩ := List.mem_map.mp hx
      by_cases e : y.1 = z
      · have : f y = (y.1, t, ws) := if_pos e
        rw [this]
        exact h
      · have : f y = y := if_neg e
        rw [this]
        exact g.w y hy
    · unfold ATm at hy ⊢
      obtain ⟨x, hx, rfl⟩ := List.mem_map.mp hy
      obtain ⟨y, hyT, rfl⟩ := List.mem_map.mp hx
      by_cases e : y.1 = z
      · have : f y = (y.1, t, ws) := if_pos e
        rw [this]
        exact .inr rfl
      · have : f y = y := if_neg e
        rw [this]
        exact .inl (List.mem_map.mpr ⟨y, hyT, rfl⟩)
  · refine ⟨T ++ [(z, t, ws)], ns ++ [z], atk_put g c, agood_more g h, ?_, fun x hx => List.mem_append_left _ hx, fun x hx => ?_, by rw [List.length_append]; exact Nat.le_refl _, fun y hy => ?_⟩
    · rw [List.nodup_append]
      exact ⟨nd, by simp, fun x hx y hy e => c (by rw [List.mem_singleton.mp hy] at e; exact e ▸ hx)⟩
    · rcases List.mem_append.mp hx with h | h
      · exact .inl h
      · exact .inr (List.mem_singleton.mp h)
    · unfold ATm at hy ⊢
      simp only [List.map_append, List.map_cons, List.map_nil, List.mem_append, List.mem_cons, List.not_mem_nil, or_false] at hy ⊢
      exact hy
/-- the first m of a tuple of words -/
theorem slA_words {K : PySem.W.Frag} {H : Hp} {q : Addr} {ws : List Str} {m : Nat} {Q : VK} (h : H q = some (.tup (ws.map V.str))) (hm : m ≤ ws.length) (k : ∀ (t : Addr) (H' : Hp), Same H H' → H' t = some (.tup ((ws.take m).map V.str)) → Q (.ref t) H') : rSlA K (.ref q) none (some (m : Int)) H Q := by
  refine ⟨q, _, rfl, SqT.of h, fun ⟨_, e⟩ => ?_, fun _ p np => ?_⟩
  · rw [HT.sIx_nat, List.length_map] at e
    have : m = ws.length := by omega
    rw [this, List.take_length] at k
    exact k q H (fun _ _ e => e) h
  · have e : cutV (ws.map V.str) none (some (m : Int)) = (ws.take m).map V.str := by
      unfold cutV
      rw [HT.sIx_nat, HT.sIx_none, List.length_map, List.drop_zero, Nat.sub_zero, Nat.min_eq_left hm, List.map_take]
    rw [e]
    exact k p _ (Same.new np) upd_same
end OR

set_option Elab.async false
set_option maxRecDepth 100000
set_option maxHeartbeats 4000000
set_option linter.all false
/-! words of our own: several clauses that name the error; a text times a number -/
namespace L2
open PySem PySem.Spec PyProof.Rows
/-- the ends of a clause: slot j is empty again behind it -/
def dropAt (j : Nat) (D : Ends) : Ends where
  nx := fun τ G => D.nx (τ.set j none) G
  rt := D.rt
  bk := fun τ G => D.bk (τ.set j none) G
  ct := fun τ G => D.ct (τ.set j none) G
abbrev Cl : Type := Value × (Addr → Value → Option Addr → TS)
/-- what the clauses wish of an error, the first first -/
def wEach (K : PySem.W.Frag) (j : Nat) (Wo : WX) (D : Ends) : List Cl → WX
  | [] => Wo
  | (c, ts) :: more => fun k dd τ G => ∃ b, PySem.W.exmOne K k c = some b ∧
      (b = true → ∀ p, G p = none → ts p k dd (dropAt j D) (τ.set j (some (.ref p))) G) ∧ (b = false → wEach K j Wo D more k dd τ G)
inductive Clauses (X : Cx) (j : Nat) (n : Str) : List ExceptHandler → List Cl → Prop
  | nil : Clauses X j n [] []
  | cons {x : Str} {c : Value} {ts : Addr → Value → Option Addr → TS} {s0 : Stmt} {ss : List Stmt} {np hp : Pos} {hs : List ExceptHandler} {l : List Cl} (nm : Names X x c)
      (su : ∀ (p : Addr) (o : Obj) (k : Value) (dd : Option Addr) (pn : List (Addr × Obj)), Zc k dd o →
        (∃ fs, o.data = .fields fs) → PSs (X.suite p ((p, o) :: pn)) (s0 :: ss) (ts p k dd))
      (r : Clauses X j n hs l) : Clauses X j n (.ExceptHandler (some (.Name x np)) (some n) (s0 :: ss) hp :: hs) ((c, ts) :: l)
section
variable {X : Cx} {n : Str} {j : Nat} {body : List Stmt} {h0 : ExceptHandler} {hs : List ExceptHandler} {l : List Cl} {pos : Pos} {tb : WX → TS} {Wo : WX}
theorem ps_try_each (e1 : X.stack = X.env :: X.outer) (e2 : X.env.frame = some X.env.locals) (nd : X.N.Nodup) (at_ : X.N[j]? = some n) (loc : X.env.kindOf n = some .local) (tk : Takes X Wo)
    (hb : ∀ (W : WX) (pn : List (Addr × Obj)) (xe : Value → Shared → Prop), Takes (X.tr pn xe) W →
      PassesOwn (model X.prog X.w) X.A X.env xe → PSs (X.tr pn xe) body (tb W))
    (cl : Clauses X j n (h0 :: hs) l) : PS X (.Try body (h0 :: hs) [] [] pos) (fun D τ G => tb (wEach X.K j Wo D l) D τ G) := by
  refine ⟨fun qs s τ G D I w => ?_⟩
  have fine := I.ok
  have fr : X.A.frames = some (X.env :: X.outer) := by rw [fine.frames, e1]
  have lc : Loc X.env.scope n := .inl loc
  refine wpAny_Try_except ?_
  refine wpAny_mono ((hb (wEach X.K j Wo D l) (X.pn ++ qs) (fun er t1 => wpAny (model X.prog X.w) X.A (noteFrame er X.env)
      (fun _ t2 => wpAny (model X.prog X.w) X.A (setFlight er none)
        (fun _ t3 => wpAny (model X.prog X.w) X.A (handleBy er X.env (h0 :: hs)) (SP X qs D) X.xe t3) X.xe t2) X.xe t1)
      (fun u s2 y => ?_) PassesOwn.looking).run [] s τ G D (I.toTry _) w) (fun f t1 y => ?_) (fun er t1 y => y)
  · obtain ⟨p, B, sJ, qs2, τ2, G2, k, dd, rfl, I2, nb, up, sk, fre, os, ag, wish⟩ := y
    have J := I2.ofTry fine
    have sk2 : Sky B (X.env :: X.outer) p (Zc k dd) X.env.locals s2.heap := by rw [← e1]; exact sk
    show wpAny _ X.A (noteFrame (.ref p) X.env) _ _ _
    refine Sky.land Zc.steady fr e2 sk2 fun hp3 fl up3 => ?_
    have J3 : Inv X qs τ2 G2 { s2 with heap := hp3 } := J.landed nb fl.1 (up.trans up3) os ag
    obtain ⟨o3, fs3, g3, z3, d3⟩ := fl.there
    have apart : p ∉ frs (X.env :: X.outer) := fun m => by
      obtain ⟨_, o4, g4, q⟩ := fl.2.2.1.mem m
      rw [g3] at g4
      cases g4
      exact q _ d3
    have pL : p ≠ X.env.locals := fun z => apart (List.mem_filterMap.mpr ⟨X.env, List.mem_cons_self, by rw [e2, z]⟩)
    have pF : p ∉ X.fs := fun m => by
      obtain ⟨e, he, q⟩ := List.mem_filterMap.mp m
      exact apart (List.mem_filterMap.mpr ⟨e, List.mem_cons_of_mem _ he, q⟩)
    have I3 := J3.suite g3 d3 fre pL pF
    have all : ∀ {hs' : List ExceptHandler} {l' : List Cl}, Clauses X j n hs' l' → wEach X.K j Wo D l' k dd τ2 G2 →
        wpAny (model X.prog X.w) X.A (handleBy (.ref p) X.env hs') (SP X qs D) X.xe { s2 with heap := hp3 } := by
      intro hs' l' c
      induction c with
      | nil =>
        intro wsh
        refine wpAny_handleBy_nil ?_
        obtain ⟨k1, k2, k3, oe, vs, T, oT, ts', he, hz, hd, f1, hr⟩ := id fl
        unfold PySem.passOn
        refine wpAny_bind (wpAny_field he hd f1 ?_)
        rw [if_neg (by simp)]
        have out : wpAny (model X.prog X.w) X.A (setFlight (.ref p) X.env.frame)
            (fun _ t4 => wpAny (model X.prog X.w) X.A (throw (.ref p) : Sem Flow) (SP X qs D) X.xe t4) X.xe { s2 with heap := hp3 } := by
          rw [e2]
          refine HandSPX.setFlight_upZ fl fun h4 y4 up4 => wpAny_throw (tk _ _ ?_)
          exact ⟨p, B, sJ, qs, τ2, G2, k, dd, rfl, J, nb, (up.trans up3).trans up4, .inr (.inr (by rw [e1]; exact y4)), fre, os, ag, wsh⟩
        first
          | exact wpAny_bind (wpAny_pure (wpAny_bind out))
          | exact wpAny_bind out
      | @cons x c ts s0 ss np hp' hs2 l2 nm su r ih =>
        intro wsh
        obtain ⟨b, b1, by1, bn⟩ := wsh
        refine wpAny_handleBy_cons (codeAny_handlers_test ?_) (by intro q; cases q)
        have LT : PySem.W.Looks (model X.prog X.w) hp3 (typeOf (.ref p)) k := fun A Q E s kk q => wpAny_typeOf_ref (kk _ _ g3) (by rw [z3.1]; exact q)
        have LM := PySem.W.exm_one (M := model X.prog X.w) J3.kIn LT b1
        have look : ∀ {Q E : Value → Shared → Prop}, Q c { s2 with heap := hp3 } →
            wpAny (model X.prog X.w) (X.A.mark (some (.ref p))) (eval (.Name x np) X.env) Q E { s2 with heap := hp3 } := fun {Q E} q => by
          obtain ⟨gl, dbg, m | ⟨m, bb, nn⟩⟩ := nm
          · exact ld_glob (X := X.suite p ((p, o3) :: (X.pn ++ qs))) I3 gl m q dbg
          · exact ld_blt (X := X.suite p ((p, o3) :: (X.pn ++ qs))) I3 gl m bb q nn dbg
        refine look (LM.here ?_)
        cases b with
        | false =>
          show wpAny _ X.A (handleBy (.ref p) X.env hs2) _ _ _
          exact ih (bn rfl)
        | true =>
          refine codeAny_handlers_suite_as ?_
          refine HandSPX.lands_againZ fl fun hp4 fl4 up4 => ?_
          have J4 : Inv X qs τ2 G2 { s2 with heap := hp4 } := J.landed nb fl4.1 ((up.trans up3).trans up4) os ag
          obtain ⟨o4, fs4, g4, z4, d4⟩ := fl4.there
          have I4 := J4.suite g4 d4 fre pL pF
          refine store_ok (X := X.suite p ((p, o4) :: (X.pn ++ qs))) (v := .ref p) I4 nd at_ lc rfl (fun s5 I5 => ?_) (.inr loc)
          refine wpAny_mono ((su p o4 k dd (X.pn ++ qs) z4 ⟨_, d4⟩).run [] s5 _ G2 _ I5 (by1 rfl p fre)) (fun f s6 y6 => ?_) (fun _ _ z => False.elim z)
          have done : ∀ {τ6 : St} {G6 : Hp} {Q : Shared → Prop}, Inv (X.suite p ((p, o4) :: (X.pn ++ qs))) [] τ6 G6 s6 →
              (∀ s7, Inv X qs (τ6.set j none) G6 s7 → Q s7) →
              wpAny (model X.prog X.w) X.A (do bindName X.env n .none; unbindBehindTheSuite X.env n hp') (fun _ s7 => Q s7) X.xe s6 :=
            fun {τ6 G6 Q} I6 q => gone_ok (I6.unsuite fine) nd at_ loc q
          cases f with
          | ret u =>
            obtain ⟨v6, τ6, G6, I6, r6, q6⟩ := y6
            exact done I6 fun s7 J7 => ⟨_, _, _, J7, r6, q6⟩
          | next =>
            obtain ⟨τ6, G6, I6, q6⟩ := y6
            exact done I6 fun s7 J7 => ⟨_, _, J7, q6⟩
          | brk =>
            obtain ⟨τ6, G6, I6, q6⟩ := y6
            exact done I6 fun s7 J7 => ⟨_, _, J7, q6⟩
          | cont =>
            obtain ⟨τ6, G6, I6, q6⟩ := y6
            exact done I6 fun s7 J7 => ⟨_, _, J7, q6⟩
    exact all cl wish
  · cases f with
    | ret u =>
      obtain ⟨v, τ2, G2, I2, r, q⟩ := y
      exact ⟨v, τ2, G2, I2.ofTry fine, r, q⟩
    | next =>
      obtain ⟨τ2, G2, I2, q⟩ := y
      exact wpAny_execs_nil ⟨τ2, G2, I2.ofTry fine, q⟩
    | brk =>
      obtain ⟨τ2, G2, I2, q⟩ := y
      exact ⟨τ2, G2, I2.ofTry fine, q⟩
    | cont =>
      obtain ⟨τ2, G2, I2, q⟩ := y
      exact ⟨τ2, G2, I2.ofTry fine, q⟩
end
end L2

set_option Elab.async false
set_option maxRecDepth 100000
set_option maxHeartbeats 4000000
set_option linter.all false
namespace L2
open PySem PySem.Spec PyProof.Rows
/-- a text m times -/
def rpt (z : Str) (m : Nat) : Str := ⟨(List.replicate m z.cps).foldl (· ++ ·) #[]⟩
theorem fold_size (l : List (Array Nat)) : ∀ a : Array Nat, (l.foldl (· ++ ·) a).size = a.size + (l.map Array.size).sum := by
  induction l with
  | nil => intro a; simp
  | cons x l ih => intro a; rw [List.foldl_cons, ih, Array.size_append, List.map_cons, List.sum_cons, Nat.add_assoc]
theorem rpt_len (z : Str) (m : Nat) : (rpt z m).length = m * z.length := by
  show ((List.replicate m z.cps).foldl (· ++ ·) #[]).size = _
  rw [fold_size]
  simp [Str.length]
theorem fold_list (l : List (Array Nat)) : ∀ a : Array Nat, (l.foldl (· ++ ·) a).toList = a.toList ++ (l.map Array.toList).flatten := by
  induction l with
  | nil => intro a; simp
  | cons x l ih => intro a; rw [List.foldl_cons, ih]; simp
theorem rpt_list (z : Str) (m : Nat) : (rpt z m).cps.toList = (List.replicate m z.cps.toList).flatten := by
  show ((List.replicate m z.cps).foldl (· ++ ·) #[]).toList = _
  rw [fold_list]
  simp
theorem op_rpt {X : Cx} : OpR X (binaryOp .Mult) (fun x y H Q => ∃ (z : Str) (m : Nat), x = .str z ∧ y = .int (m : Nat) ∧ 1 ≤ z.length ∧ z.length ≤ 100 ∧ m ≤ 10000 ∧ Q (.str (rpt z m)) H) := by
  intro pins s σ H x y v u Q I rx ry h
  obtain ⟨z, m, rfl, rfl, l1, l2, hm, q⟩ := h
  obtain ⟨t, rfl⟩ := rx
  obtain ⟨t', rfl⟩ := ry
  have big : m * z.length ≤ sizeLine := Nat.le_trans (Nat.mul_le_mul hm l2) (by decide)
  have hz0 : (z.length == 0) = false := by rw [beq_eq_false_iff_ne]; omega
  refine PySem.P.mul_str ?_ (fun h1 h2 => ?_) (fun h1 h2 => ?_) ?_
  · rw [decide_eq_false (by omega), decide_eq_false (by omega)]; rfl
  · have h3 : (1 : Int) ≤ m := by omega
    have : (10000 : Int) ≤ (2 ^ 63 - 1) / m := by
      rw [Int.le_ediv_iff_mul_le (by omega)]
      omega
    omega
  · unfold PySem.Builtin.Str.tooLong
    rw [Int.toNat_natCast, Nat.mul_comm]
    exact decide_eq_false (Nat.not_lt.mpr big)
  · by_cases c : (m : Int) < 1
    · rw [if_pos c]
      have e : m = 0 := by omega
      subst e
      exact ⟨by decide, ⟨.str Str.empty, H, I.tok _, ⟨_, rfl⟩, q⟩⟩
    · rw [if_neg c, hz0, Bool.or_false]
      by_cases c1 : ((m : Int) == 1) = true
      · rw [if_pos c1]
        have e : m = 1 := by have := beq_iff_eq.mp c1; omega
        subst e
        have e2 : rpt z 1 = z := by
          show (⟨#[] ++ z.cps⟩ : Str) = z
          simp
        rw [e2] at q
        exact ⟨.str z, H, I, ⟨_, rfl⟩, q⟩
      · rw [if_neg c1]
        refine ⟨?_, ⟨.str (rpt z m), H, I.tok _, ⟨_, rfl⟩, q⟩⟩
        show (rpt z m).length ≤ sizeLine
        rw [rpt_len]
        exact big
/-- d.get(key), d a written dict -/
def tKGet (K : PySem.W.Frag) (d : Addr) (ty : TE) : TE := fun σ H Q => ty σ H fun y H1 => ∃ (z : Str) (r : Option Value), y = .str z ∧ PySem.W.nsIn K d z = some r ∧
  ((r = none ∧ Q .non H1) ∨ ∃ u v, r = some u ∧ RelV v u ∧ Q v H1)
theorem pe_kget {X : Cx} {o e : Expr} {apos cpos : Pos} {ty : TE} {d : Addr} (D : KD X.K X.w d) (ho : PE X o (tC (.ref d))) (he : PE X e ty) (m : M1 X o "get" apos e cpos) :
    PE X (.Call (.Attribute o "get" apos) [e] [] cpos) (tKGet X.K d ty) := by
  obtain ⟨es, n, D⟩ := D
  refine ⟨fun pins s σ H Q I h => ?_⟩
  refine wpAny_Call_method m.base m.few m.line PySem.F.plainAttrs_dict PySem.F.slot_dict_get PySem.F.type_dict_get ?_
  refine thn (ho.run pins s σ H (fun x H1 => x = .ref d ∧ H1 = H) I ⟨rfl, rfl⟩) fun u s1 q => ?_
  obtain ⟨x, H1, I1, rx, ex, eh⟩ := q
  subst ex eh
  cases rx
  have M := PySem.W.mapOf_K (prog := X.prog) (w := X.w) I1.kIn D.at_ D.lit
  refine ⟨M.typeIs, fun b q => ?_, ?_⟩
  · cases q
    obtain ⟨ob, es2, ep, h1, h2, _⟩ := M
    exact ⟨ob, h1, h2.2.1⟩
  · rw [m.trees]
    refine PySem.wpAny_dict_get1 (knd := PySem.strKind X.prog X.w) D.low (thn (he.run pins s1 σ _ _ I1 h) fun iv s2 q => ?_)
    obtain ⟨y, H2, I2, ry, z, r, rfl, e, q⟩ := q
    obtain ⟨t, rfl⟩ := ry
    refine ⟨z, _, PySem.strKind_is X.prog X.w z t, PySem.W.mapOf_K (prog := X.prog) (w := X.w) I2.kIn D.at_ D.lit, ?_⟩
    rw [PySem.W.find_K D.at_ e]
    rcases q with ⟨rfl, q⟩ | ⟨u, v, rfl, rv, q⟩
    · exact ⟨.non, H2, I2.tok _, rfl, q⟩
    · exact ⟨v, H2, I2.tok _, rv, q⟩
end L2

set_option Elab.async false
set_option maxRecDepth 100000
set_option maxHeartbeats 4000000
set_option linter.all false
namespace OR
open PySem PySem.Spec PyProof.Rows L2 TS2
/-! ### texts joined -/
theorem jn_nil {s : Str} : Txt.join s [] = "" := by rw [TL.join_eq]; rfl
theorem jn_one {s x : Str} : Txt.join s [x] = x := by rw [TL.join_eq]; rfl
theorem jn_cons {s x z : Str} {r : List Str} : Txt.join s (x :: z :: r) = x ++ s ++ Txt.join s (z :: r) := by rw [TL.join_eq, TL.join_eq]; rfl
theorem jn_ne {s x : Str} {l : List Str} (h : l ≠ []) : Txt.join s (x :: l) = x ++ s ++ Txt.join s l := by
  cases l with
  | nil => exact absurd rfl h
  | cons z r => exact jn_cons
theorem jn_snoc {s b : Str} : ∀ {l : List Str}, l ≠ [] → Txt.join s (l ++ [b]) = Txt.join s l ++ s ++ b
  | [], h => absurd rfl h
  | [x], _ => by rw [show [x] ++ [b] = x :: b :: ([] : List Str) from rfl, jn_cons, jn_one, jn_one]
  | x :: z :: r, _ => by
    rw [show (x :: z :: r) ++ [b] = x :: ((z :: r) ++ [b]) from rfl, jn_ne (by simp), jn_snoc (l := z :: r) (by simp), jn_cons]
    simp only [Str.append_assoc]
theorem len_app (a b : Str) : (a ++ b).length = a.length + b.length := by
  show (a ++ b).cps.size = _
  rw [Str.cps_append, Array.size_append]
  rfl
theorem jn_len {s : Str} : ∀ (l : List Str), (Txt.join s l).length ≤ (l.map fun z => z.length + s.length).sum
  | [] => by rw [jn_nil]; exact Nat.le_refl 0
  | [x] => by rw [jn_one]; simp
  | x :: z :: r => by
    have ih := jn_len (s := s) (z :: r)
    rw [jn_cons, len_app, len_app, List.map_cons, List.sum_cons]
    omega
theorem sum_le {α : Type} {f : α → Nat} {c : Nat} : ∀ (l : List α), (∀ x ∈ l, f x ≤ c) → (l.map f).sum ≤ c * l.length
  | [], _ => by simp
  | x :: l, h => by
    have h1 := h x List.mem_cons_self
    have h2 := sum_le l fun y hy => h y (List.mem_cons_of_mem _ hy)
    rw [List.map_cons, List.sum_cons, List.length_cons, Nat.mul_add]
    omega
/-! ### the lines of rows -/
def rowWs {R : Type} (w : Str) (ps : List (Pt R)) : List Str := w :: (ps.map wordsP).flatten
def divOf (w : Str) : Str := if w = "gate" then "old" else "else"
/-- the lines of a row's lists -/
def innerLs {R : Type} (f : List R → Nat → List Str) (w : Str) (lv : Nat) : Nat → List (List R) → List Str
  | _, [] => []
  | i, l :: ls => (if w = "both" then (rpt "  " (lv + 1) ++ "side") :: f l (lv + 2) else (if i = 1 then [rpt "  " lv ++ divOf w] else []) ++ f l (lv + 1)) ++ innerLs f w lv (i + 1) ls
def lineL : (d : Nat) → List (Row d) → Nat → List Str
  | 0, _, _ => []
  | d + 1, rows, lv => (rows.map fun r => (rpt "  " lv ++ Txt.join " " (rowWs r.1 r.2)) :: innerLs (lineL d) r.1 lv 0 (kids r.2)).flatten
theorem lineL_app {d : Nat} (a b : List (Row d)) (lv : Nat) : lineL d (a ++ b) lv = lineL d a lv ++ lineL d b lv := by
  cases d with
  | zero => rfl
  | succ d => unfold lineL; rw [List.map_append, List.flatten_append]
theorem lineL_one {d : Nat} (r : Row (d + 1)) (lv : Nat) : lineL (d + 1) [r] lv = (rpt "  " lv ++ Txt.join " " (rowWs r.1 r.2)) :: innerLs (lineL d) r.1 lv 0 (kids r.2) := by
  show ([r].map _).flatten = _
  simp
theorem innerLs_app {R : Type} {f : List R → Nat → List Str} {w : Str} {lv : Nat} : ∀ (i : Nat) (a b : List (List R)), innerLs f w lv i (a ++ b) = innerLs f w lv i a ++ innerLs f w lv (i + a.length) b
  | i, [], b => by simp [innerLs]
  | i, x :: a, b => by
    have ih := innerLs_app (f := f) (w := w) (lv := lv) (i + 1) a b
    show _ ++ innerLs f w lv (i + 1) (a ++ b) = (_ ++ innerLs f w lv (i + 1) a) ++ innerLs f w lv (i + (a.length + 1)) b
    rw [ih, List.append_assoc, show i + 1 + a.length = i + (a.length + 1) by omega]
/-! ### the forms of good rows -/
theorem pg_kind {kt : Kit} {R : Type} {f : Str} {p : Pt R} (h : PG kt f p) : kindOk f p = true := by
  cases p with
  | word z =>
    obtain ⟨_, _, _, _, _, _, _, n1, n2, n3, n4, _⟩ := h
    simp [kindOk, n1, n2, n3, n4]
  | words l => rcases h.1 with e | e <;> simp [kindOk, e]
  | rows l => simp [kindOk, h.1]
  | sides l => simp [kindOk, h.1]
theorem lo_kinds {kt : Kit} {il : Bool} {R : Type} {w : Str} {ps : List (Pt R)} (h : LocalOk kt il w ps) : KindsOk (fsOf w) ps := h.p.imp fun _ _ _ q => pg_kind q
theorem rowWs_len {kt : Kit} {il : Bool} {R : Type} {w : Str} {ps : List (Pt R)} (h : LocalOk kt il w ps) : (rowWs w ps).length ≤ 13 ∧ ∀ z ∈ rowWs w ps, z.length ≤ 8 := by
  have h4 := (lo_kids h).1
  have pw : ∀ p ∈ ps, (wordsP p).length ≤ 3 ∧ ∀ z ∈ wordsP p, isWord z = true := fun p hp => by
    obtain ⟨i, hi⟩ := List.getElem?_of_mem hp
    obtain ⟨f, _, hf⟩ := h.p.other hi
    exact ⟨(pg_words hf).1, (pg_words hf).2.1⟩
  refine ⟨?_, fun z hz => ?_⟩
  · have := fl_len (f := wordsP) (c := 3) ps fun p hp => (pw p hp).1
    show ((ps.map wordsP).flatten).length + 1 ≤ 13
    omega
  · rcases List.mem_cons.mp hz with rfl | hz
    · exact (by decide +kernel : ∀ e ∈ ftab, e.1.length ≤ 8) _ h.f
    · obtain ⟨l, h1, h2⟩ := List.mem_flatten.mp hz
      obtain ⟨p, hp, rfl⟩ := List.mem_map.mp h1
      exact isWord_len ((pw p hp).2 z h2)
theorem head_len {kt : Kit} {il : Bool} {R : Type} {w : Str} {ps : List (Pt R)} (h : LocalOk kt il w ps) : (Txt.join " " (rowWs w ps)).length ≤ 130 := by
  obtain ⟨h1, h2⟩ := rowWs_len h
  have e : (" " : Str).length = 1 := by decide +kernel
  have s := sum_le (f := fun z : Str => z.length + (" " : Str).length) (c := 9) (rowWs w ps) fun z hz => by have := h2 z hz; rw [e]; omega
  have := jn_len (s := " ") (rowWs w ps)
  omega
theorem rpt2_len (n : Nat) : (rpt "  " n).length = 2 * n := by
  rw [rpt_len, show ("  " : Str).length = 2 by decide +kernel, Nat.mul_comm]
theorem div_len (w : Str) : (divOf w).length ≤ 4 := by unfold divOf; split <;> decide +kernel
theorem inner_bd {R : Type} {f : List R → Nat → List Str} {w : Str} {lv B : Nat} {c : List R → Nat} : ∀ (i : Nat) (ls : List (List R)), (∀ l ∈ ls, ∀ n, (∀ z ∈ f l n, z.length ≤ 2 * (n + B) + 140) ∧ (f l n).length ≤ c l) → (∀ z ∈ innerLs f w lv i ls, z.length ≤ 2 * (lv + 2 + B) + 140) ∧ (innerLs f w lv i ls).length ≤ ls.length + (ls.map c).sum
  | _, [], _ => ⟨(fun z hz => by cases hz), Nat.zero_le _⟩
  | i, l :: ls, h => by
    obtain ⟨ih1, ih2⟩ := inner_bd (w := w) (lv := lv) (i + 1) ls fun x hx => h x (List.mem_cons_of_mem _ hx)
    have hl := h l List.mem_cons_self
    have e4 : ("side" : Str).length = 4 := by decide +kernel
    unfold innerLs
    refine ⟨fun z hz => ?_, ?_⟩
    · rcases List.mem_append.mp hz with hz | hz
      · split at hz
        · rcases List.mem_cons.mp hz with rfl | hz
          · rw [len_app, rpt2_len, e4]; omega
          · have := (hl (lv + 2)).1 z hz; omega
        · rcases List.mem_append.mp hz with hz | hz
          · split at hz
            · rw [List.mem_singleton.mp hz, len_app, rpt2_len]
              have := div_len w
              omega
            · cases hz
          · have := (hl (lv + 1)).1 z hz; omega
      · exact ih1 z hz
    · rw [List.length_append, List.length_cons, List.map_cons, List.sum_cons]
      have a1 := (hl (lv + 2)).2
      have a2 := (hl (lv + 1)).2
      split
      · rw [List.length_cons]; omega
      · rw [List.length_append]
        split
        · rw [List.length_singleton]; omega
        · rw [List.length_nil]; omega
theorem lineL_bd {kt : Kit} : ∀ (d : Nat) (il : Bool) (rows : List (Row d)), (∀ r ∈ rows, Good kt d il r) → ∀ lv, (∀ z ∈ lineL d rows lv, z.length ≤ 2 * (lv + 2 * d) + 140) ∧ (lineL d rows lv).length ≤ 14 * lsz d rows
  | 0, _, rows, _, lv => ⟨(fun z hz => by cases hz), Nat.zero_le _⟩
  | d + 1, il, rows, g, lv => by
    have one : ∀ r : Row (d + 1), Good kt (d + 1) il r → (∀ z ∈ innerLs (lineL d) r.1 lv 0 (kids r.2), z.length ≤ 2 * (lv + 2 + 2 * d) + 140) ∧ (innerLs (lineL d) r.1 lv 0 (kids r.2)).length ≤ (kids r.2).length + ((kids r.2).map fun l => 14 * lsz d l).sum := fun r gr => inner_bd (B := 2 * d) (c := fun l => 14 * lsz d l) 0 (kids r.2) fun l hl n => lineL_bd d _ l (gr.2.2 l hl) n
    have mul : ∀ ls : List (List (Row d)), (ls.map fun l => 14 * lsz d l).sum = 14 * (ls.map (lsz d)).sum := fun ls => by
      induction ls with
      | nil => rfl
      | cons l ls ih => rw [List.map_cons, List.sum_cons, ih, List.map_cons, List.sum_cons]; omega
    induction rows with
    | nil => exact ⟨(fun z hz => by cases hz), Nat.zero_le _⟩
    | cons r rows ih =>
      obtain ⟨ih1, ih2⟩ := ih fun x hx => g x (List.mem_cons_of_mem _ hx)
      have gr := g r List.mem_cons_self
      obtain ⟨o1, o2⟩ := one r gr
      have e : lineL (d + 1) (r :: rows) lv = ((rpt "  " lv ++ Txt.join " " (rowWs r.1 r.2)) :: innerLs (lineL d) r.1 lv 0 (kids r.2)) ++ lineL (d + 1) rows lv := by
        have := lineL_app (d := d + 1) [r] rows lv
        rw [lineL_one] at this
        exact this
      have k12 := (lo_kids gr.1).2.1
      have hl := head_len gr.1
      rw [e]
      refine ⟨fun z hz => ?_, ?_⟩
      · rcases List.mem_append.mp hz with hz | hz
        · rcases List.mem_cons.mp hz with rfl | hz
          · rw [len_app, rpt2_len]; omega
          · have := o1 z hz; omega
        · exact ih1 z hz
      · rw [List.length_append, List.length_cons, lsz_cons]
        have er : rsz (d + 1) r = 1 + ((kids r.2).map (lsz d)).sum := rfl
        rw [mul] at o2
        omega
theorem no_sides : ∀ e ∈ ftab, e.1 ≠ "both" → ("sides" : Str) ∉ e.2 := by decide +kernel
theorem kids_count {kt : Kit} {R : Type} {fs : List Str} {ps : List (Pt R)} (h : All2 (PG kt) fs ps) (n : ("sides" : Str) ∉ fs) : (kids ps).length = (fs.filter fun f => decide (f = ("rows" : Str))).length := by
  induction h with
  | nil => rfl
  | cons h t ih =>
    rename_i f p fs ps
    have ih := ih fun q => n (List.mem_cons_of_mem _ q)
    have e : kids (p :: ps) = kidsP p ++ kids ps := by unfold kids; simp
    rw [e, List.length_append, ih]
    cases p with
    | word z =>
      obtain ⟨_, _, _, _, _, _, _, _, _, n3, _, _⟩ := h
      rw [List.filter_cons_of_neg (by simpa using n3)]
      show 0 + _ = _
      omega
    | words l =>
      have n3 : f ≠ "rows" := by rcases h.1 with q | q <;> rw [q] <;> decide +kernel
      rw [List.filter_cons_of_neg (by simpa using n3)]
      show 0 + _ = _
      omega
    | rows l =>
      rw [List.filter_cons_of_pos (by simpa using h.1), List.length_cons]
      show 1 + _ = _
      omega
    | sides l => exact absurd (h.1 ▸ List.mem_cons_self) n
theorem kids_two {kt : Kit} {il : Bool} {R : Type} {w : Str} {ps : List (Pt R)} (h : LocalOk kt il w ps) (nb : w ≠ "both") (k : 1 < (kids ps).length) : w = "if" ∨ w = "gate" := by
  rw [kids_count h.p (no_sides _ h.f nb)] at k
  exact (by decide +kernel : ∀ e ∈ ftab, e.1 ≠ "both" → e.1 ≠ "edit" → 1 < (e.2.filter fun f => decide (f = ("rows" : Str))).length → e.1 = "if" ∨ e.1 = "gate") _ h.f nb h.e k
theorem kids_le2 {kt : Kit} {il : Bool} {R : Type} {w : Str} {ps : List (Pt R)} (h : LocalOk kt il w ps) (nb : w ≠ "both") : (kids ps).length ≤ 2 := by
  rw [kids_count h.p (no_sides _ h.f nb)]
  exact (by decide +kernel : ∀ e ∈ ftab, e.1 ≠ "both" → (e.2.filter fun f => decide (f = ("rows" : Str))).length ≤ 2) _ h.f nb
/-! ### the lines as the law writes them -/
theorem areW_ne {m : Int} {l : List Str} (h : areW m l = true) : l ≠ [] := fun e => by
  subst e
  unfold areW at h
  simp at h
theorem first_ps {kt : Kit} {il : Bool} {R : Type} {ps : List (Pt R)} (h : LocalOk kt il "first" ps) : ∃ ls s, ps = [.words ls, .word s] ∧ ls ≠ [] ∧ ls.length ≤ 3 := by
  have p := h.p
  rw [show fsOf "first" = (["labels", "slot"] : List Str) by decide +kernel] at p
  cases p with
  | cons h1 t =>
  cases t with
  | cons h2 t =>
  cases t
  rename_i x y
  cases x with
  | word z => exact absurd rfl h1.2.2.2.2.2.2.2.1
  | rows l => exact absurd h1.1 (by decide +kernel)
  | sides l => exact absurd h1.1 (by decide +kernel)
  | words l =>
    cases y with
    | word s => exact ⟨l, s, rfl, areW_ne h1.2.1, by have := (areW_all h1.2.1).2; omega⟩
    | words l => rcases h2.1 with e | e <;> exact absurd e (by decide +kernel)
    | rows l => exact absurd h2.1 (by decide +kernel)
    | sides l => exact absurd h2.1 (by decide +kernel)
theorem note_ps {kt : Kit} {il : Bool} {R : Type} {ps : List (Pt R)} (h : LocalOk kt il "note" ps) : ∃ s ls, ps = [.word s, .words ls] ∧ ls ≠ [] ∧ ls.length ≤ 3 := by
  have p := h.p
  rw [show fsOf "note" = (["slot", "words"] : List Str) by decide +kernel] at p
  cases p with
  | cons h1 t =>
  cases t with
  | cons h2 t =>
  cases t
  rename_i x y
  cases y with
  | word z => exact absurd rfl h2.2.2.2.2.2.2.2.2.1
  | rows l => exact absurd h2.1 (by decide +kernel)
  | sides l => exact absurd h2.1 (by decide +kernel)
  | words l =>
    cases x with
    | word s => exact ⟨s, l, rfl, areW_ne h2.2.1, by have := (areW_all h2.2.1).2; omega⟩
    | words l => rcases h1.1 with e | e <;> exact absurd e (by decide +kernel)
    | rows l => exact absurd h1.1 (by decide +kernel)
    | sides l => exact absurd h1.1 (by decide +kernel)
theorem no_words {kt : Kit} {il : Bool} {R : Type} {w : Str} {ps : List (Pt R)} (h : LocalOk kt il w ps) (n1 : w ≠ "first") (n2 : w ≠ "note") : ∀ p ∈ ps, ∀ l, p ≠ .words l := fun p hp l e => by
  obtain ⟨i, hi⟩ := List.getElem?_of_mem hp
  obtain ⟨f, hf, hg⟩ := h.p.other hi
  rw [e] at hg
  have m := List.mem_of_getElem? hf
  obtain ⟨k1, k2⟩ := (by decide +kernel : ∀ e ∈ ftab, e.1 ≠ "first" → e.1 ≠ "note" → ("labels" : Str) ∉ e.2 ∧ ("words" : Str) ∉ e.2) _ h.f n1 n2
  rcases hg.1 with q | q
  · exact k1 (q ▸ m)
  · exact k2 (q ▸ m)
theorem first_line {mg s : Str} {R : Type} {ls : List Str} (h : ls ≠ []) : mg ++ "first " ++ Txt.join " " ls ++ " " ++ s = mg ++ Txt.join " " (rowWs (R := R) "first" [.words ls, .word s]) := by
  have e : rowWs (R := R) "first" [.words ls, .word s] = ("first" : Str) :: (ls ++ [s]) := by simp [rowWs, wordsP]
  rw [e, jn_ne (by simp), jn_snoc h, show ("first " : Str) = "first" ++ " " by decide +kernel]
  simp only [Str.append_assoc]
theorem note_line {mg s : Str} {R : Type} {ls : List Str} (h : ls ≠ []) : mg ++ "note " ++ s ++ " " ++ Txt.join " " ls = mg ++ Txt.join " " (rowWs (R := R) "note" [.word s, .words ls]) := by
  have e : rowWs (R := R) "note" [.word s, .words ls] = ("note" : Str) :: s :: ls := by simp [rowWs, wordsP]
  rw [e, jn_ne (by simp), jn_ne h, show ("note " : Str) = "note" ++ " " by decide +kernel]
  simp only [Str.append_assoc]
theorem both_line {mg : Str} {R : Type} {ls : List (List R)} : mg ++ "both" = mg ++ Txt.join " " (rowWs "both" [.sides ls]) := by
  have e : rowWs "both" [.sides ls] = (["both"] : List Str) := by simp [rowWs, wordsP]
  rw [e, jn_one]
theorem rpt_succ (z : Str) (m : Nat) : rpt z (m + 1) = rpt z m ++ z := by
  refine TL.ext_tl ?_
  show (rpt z (m + 1)).cps.toList = (rpt z m ++ z).cps.toList
  rw [Str.cps_append, Array.toList_append, rpt_list, rpt_list, List.replicate_succ', List.flatten_append]
  simp
theorem side_line (lv : Nat) : rpt "  " lv ++ "  side" = rpt "  " (lv + 1) ++ "side" := by
  rw [rpt_succ, Str.append_assoc, show ("  " : Str) ++ "side" = "  side" by decide +kernel]
end OR

set_option Elab.async false
set_option maxRecDepth 100000
set_option maxHeartbeats 4000000
set_option linter.all false
namespace OR
open PySem PySem.Spec PyProof.Rows L2 TS2
/-! ### sorted lists of texts with the same texts are one -/
def leS (a b : Str) : Prop := a.cps.toList ≤ b.cps.toList
theorem rising_pw : ∀ (p : Str) (l : List Str), risingS p l = true → (p :: l).Pairwise leS
  | p, [], _ => List.pairwise_singleton _ _
  | p, x :: r, h => by
    have h : (!ltCps x.cps.toList p.cps.toList && risingS x r) = true := h
    rw [Bool.and_eq_true, Bool.not_eq_true', ltCps_eq] at h
    have ih := rising_pw x r h.2
    have px : leS p x := List.not_lt.mp (of_decide_eq_false h.1)
    refine List.pairwise_cons.mpr ⟨fun y hy => ?_, ih⟩
    rcases List.mem_cons.mp hy with rfl | hy
    · exact px
    · exact List.le_trans px ((List.pairwise_cons.mp ih).1 y hy)
theorem sorted_pw {l : List Str} (h : sortedS l = true) : l.Pairwise leS := by
  cases l with
  | nil => exact .nil
  | cons x r => exact rising_pw x r h
theorem leS_anti {a b : Str} (h1 : leS a b) (h2 : leS b a) : a = b := by
  have e := List.le_antisymm h1 h2
  obtain ⟨⟨a⟩⟩ := a
  obtain ⟨⟨b⟩⟩ := b
  cases e
  rfl
theorem sorted_one {a b c : List Str} (ha : sortedS a = true) (hb : sortedS b = true) (pa : a.Perm c) (pb : b.Perm c) : a = b := (pa.trans pb.symm).eq_of_pairwise (fun _ _ _ _ h1 h2 => leS_anti h1 h2) (sorted_pw ha) (sorted_pw hb)
/-! ### what a table tells of a name -/
def entA (T : AT) (z : Str) : Str × Addr × List Str := (T.find? fun x => decide (x.1 = z)).getD (z, 0, [])
def entS (T : ST) (z : Str) : Str × Addr × Nat × Addr × List Str := (T.find? fun x => decide (x.1 = z)).getD (z, 0, 0, 0, [])
theorem entA_in {z : Str} : ∀ {T : AT}, z ∈ T.map (·.1) → entA T z ∈ T ∧ (entA T z).1 = z ∧ valV (ATk T) (Sum.inr z : Key) = some (.ref (entA T z).2.1)
  | [], h => by cases h
  | x :: T, h => by
    by_cases c : x.1 = z
    · have e : entA (x :: T) z = x := by unfold entA; rw [List.find?_cons_of_pos (by simpa using c)]; rfl
      rw [e]
      exact ⟨List.mem_cons_self, c, valV_pos (show (Sum.inr x.1 : Key) = Sum.inr z by rw [c])⟩
    · have e : entA (x :: T) z = entA T z := by unfold entA; rw [List.find?_cons_of_neg (by simpa using c)]
      rw [List.map_cons] at h
      obtain ⟨h1, h2, h3⟩ := entA_in (T := T) ((List.mem_cons.mp h).resolve_left fun q => c q.symm)
      rw [e]
      exact ⟨List.mem_cons_of_mem _ h1, h2, (valV_neg (fun q => c (Sum.inr.inj q))).trans h3⟩
theorem entS_in {z : Str} : ∀ {T : ST}, z ∈ T.map (·.1) → entS T z ∈ T ∧ (entS T z).1 = z ∧ valV (STk T) (Sum.inr z : Key) = some (.ref (entS T z).2.1)
  | [], h => by cases h
  | x :: T, h => by
    by_cases c : x.1 = z
    · have e : entS (x :: T) z = x := by unfold entS; rw [List.find?_cons_of_pos (by simpa using c)]; rfl
      rw [e]
      exact ⟨List.mem_cons_self, c, valV_pos (show (Sum.inr x.1 : Key) = Sum.inr z by rw [c])⟩
    · have e : entS (x :: T) z = entS T z := by unfold entS; rw [List.find?_cons_of_neg (by simpa using c)]
      rw [List.map_cons] at h
      obtain ⟨h1, h2, h3⟩ := entS_in (T := T) ((List.mem_cons.mp h).resolve_left fun q => c q.symm)
      rw [e]
      exact ⟨List.mem_cons_of_mem _ h1, h2, (valV_neg (fun q => c (Sum.inr.inj q))).trans h3⟩
theorem nd_inj {α β : Type} {f : α → β} {x y : α} : ∀ {l : List α}, (l.map f).Nodup → x ∈ l → y ∈ l → f x = f y → x = y
  | z :: l, nd, hx, hy, e => by
    rw [List.map_cons, List.nodup_cons] at nd
    rcases List.mem_cons.mp hx with hx' | hx'
    · rcases List.mem_cons.mp hy with hy' | hy'
      · rw [hx', hy']
      · exact absurd (List.mem_map.mpr ⟨y, hy', by rw [← e, hx']⟩) nd.1
    · rcases List.mem_cons.mp hy with hy' | hy'
      · exact absurd (List.mem_map.mpr ⟨x, hx', by rw [e, hy']⟩) nd.1
      · exact nd_inj nd.2 hx' hy' e
/-! ### the text -/
def roomT (r : Nat) : Str := toString ((r : Nat) : Int)
def askL (x : Str × Addr × List Str) : Str := Txt.join " " ("ask" :: x.1 :: x.2.2)
def sigL (x : Str × Addr × Nat × Addr × List Str) : Str := Txt.join " " ("signal" :: x.1 :: roomT x.2.2.1 :: x.2.2.2.2)
def headL (TA : AT) (TS : ST) (inp ya ys : List Str) : List Str := ya.map (fun z => askL (entA TA z)) ++ (ys.map (fun z => sigL (entS TS z)) ++ [Txt.join " " ("inputs" :: inp), "rows"])
def textOf (TA : AT) (TS : ST) (inp : List Str) (rows : List (Row 5)) (ya ys : List Str) : Str := Txt.join "\n" (headL TA TS inp ya ys ++ lineL 5 rows 1)
theorem room_len : ∀ r, r ≤ 3 → (roomT r).length ≤ 1 := by decide +kernel
theorem ask_line {z : Str} {ws : List Str} (h : ws ≠ []) : ("ask " : Str) ++ z ++ " " ++ Txt.join " " ws = Txt.join " " ("ask" :: z :: ws) := by
  rw [jn_ne (by simp), jn_ne h, show ("ask " : Str) = "ask" ++ " " by decide +kernel]
  simp only [Str.append_assoc]
theorem sig_line {z r : Str} {ws : List Str} (h : ws ≠ []) : ("signal " : Str) ++ z ++ " " ++ r ++ " " ++ Txt.join " " ws = Txt.join " " ("signal" :: z :: r :: ws) := by
  rw [jn_ne (by simp), jn_ne (by simp), jn_ne h, show ("signal " : Str) = "signal" ++ " " by decide +kernel]
  simp only [Str.append_assoc]
theorem inp_line {ws : List Str} (h : ws ≠ []) : ("inputs " : Str) ++ Txt.join " " ws = Txt.join " " ("inputs" :: ws) := by
  rw [jn_ne h, show ("inputs " : Str) = "inputs" ++ " " by decide +kernel]
theorem jn_bd {zs : List Str} {c : Nat} (h : ∀ z ∈ zs, z.length ≤ c) : (Txt.join " " zs).length ≤ (c + 1) * zs.length ∧ (zs.map (·.length)).sum + zs.length * (" " : Str).length ≤ (c + 1) * zs.length := by
  have sp1 : (" " : Str).length = 1 := by decide +kernel
  have a1 := jn_len (s := " ") zs
  have a2 := sum_le (f := fun z : Str => z.length + (" " : Str).length) (c := c + 1) zs fun z hz => by have := h z hz; rw [sp1]; omega
  have a3 := sum_le (f := fun z : Str => z.length) (c := c) zs h
  have e : (c + 1) * zs.length = c * zs.length + zs.length := by rw [Nat.add_mul, Nat.one_mul]
  rw [sp1, Nat.mul_one]
  omega
/-- what is needed of the parts of a text -/
structure TxIs (TA : AT) (TS : ST) (na ns inp : List Str) (rows : List (Row 5)) : Prop where
  gA : AGood TA na
  gS : SGood TS ns
  wA : ∀ z ∈ na, isWord z = true
  wS : ∀ z ∈ ns, isWord z = true
  nA : na.Nodup
  nS : ns.Nodup
  lA : na.length ≤ 6
  lS : ns.length ≤ 3
  i : WsOk 3 inp
  g : ∃ kt, ∀ x ∈ rows, Good kt 5 false x
  z : lsz 5 rows ≤ 60
theorem ws_ne {m : Nat} {l : List Str} (h : WsOk m l) : l ≠ [] := fun e => by rw [e] at h; exact absurd h.2.2.1 (by decide)
theorem ask_len {x : Str × Addr × List Str} (w : isWord x.1 = true) (h : WsOk 4 x.2.2) : (("ask" : Str) :: x.1 :: x.2.2).length ≤ 6 ∧ (∀ z ∈ ("ask" : Str) :: x.1 :: x.2.2, z.length ≤ 8) ∧ (askL x).length ≤ 60 := by
  have h8 : ∀ z ∈ ("ask" : Str) :: x.1 :: x.2.2, z.length ≤ 8 := fun z hz => by
    rcases List.mem_cons.mp hz with rfl | hz
    · decide +kernel
    · rcases List.mem_cons.mp hz with rfl | hz
      · exact isWord_len w
      · exact isWord_len (h.1 z hz)
  have l6 : (("ask" : Str) :: x.1 :: x.2.2).length ≤ 6 := by have := h.2.2.2; rw [List.length_cons, List.length_cons]; omega
  refine ⟨l6, h8, ?_⟩
  have := (jn_bd h8).1
  unfold askL
  omega
theorem sig_len {x : Str × Addr × Nat × Addr × List Str} (w : isWord x.1 = true) (h : WsOk 3 x.2.2.2.2 ∧ 1 ≤ x.2.2.1 ∧ x.2.2.1 ≤ 3) : (("signal" : Str) :: x.1 :: roomT x.2.2.1 :: x.2.2.2.2).length ≤ 6 ∧ (∀ z ∈ ("signal" : Str) :: x.1 :: roomT x.2.2.1 :: x.2.2.2.2, z.length ≤ 8) ∧ (sigL x).length ≤ 60 := by
  have h8 : ∀ z ∈ ("signal" : Str) :: x.1 :: roomT x.2.2.1 :: x.2.2.2.2, z.length ≤ 8 := fun z hz => by
    rcases List.mem_cons.mp hz with rfl | hz
    · decide +kernel
    · rcases List.mem_cons.mp hz with rfl | hz
      · exact isWord_len w
      · rcases List.mem_cons.mp hz with rfl | hz
        · have := room_len _ h.2.2; omega
        · exact isWord_len (h.1.1 z hz)
  have l6 : (("signal" : Str) :: x.1 :: roomT x.2.2.1 :: x.2.2.2.2).length ≤ 6 := by have := h.1.2.2.2; rw [List.length_cons, List.length_cons, List.length_cons]; omega
  refine ⟨l6, h8, ?_⟩
  have := (jn_bd h8).1
  unfold sigL
  omega
theorem inp_len {inp : List Str} (h : WsOk 3 inp) : (("inputs" : Str) :: inp).length ≤ 4 ∧ (∀ z ∈ ("inputs" : Str) :: inp, z.length ≤ 8) ∧ (Txt.join " " ("inputs" :: inp)).length ≤ 60 := by
  have h8 : ∀ z ∈ ("inputs" : Str) :: inp, z.length ≤ 8 := fun z hz => by
    rcases List.mem_cons.mp hz with rfl | hz
    · decide +kernel
    · exact isWord_len (h.1 z hz)
  have l6 : (("inputs" : Str) :: inp).length ≤ 4 := by have := h.2.2.2; rw [List.length_cons]; omega
  refine ⟨l6, h8, ?_⟩
  have := (jn_bd h8).1
  omega
theorem head_bd {TA : AT} {TS : ST} {na ns inp ya ys : List Str} {rows : List (Row 5)} (h : TxIs TA TS na ns inp rows) (pa : ya.Perm na) (ps : ys.Perm ns) : (headL TA TS inp ya ys).length ≤ 11 ∧ ∀ z ∈ headL TA TS inp ya ys, z.length ≤ 60 := by
  have la := pa.length_eq
  have ls := ps.length_eq
  have l6 := h.lA
  have l3 := h.lS
  unfold headL
  refine ⟨by rw [List.length_append, List.length_append, List.length_map, List.length_map]; show _ + (_ + 2) ≤ 11; omega, fun z hz => ?_⟩
  rcases List.mem_append.mp hz with hz | hz
  · obtain ⟨y, hy, rfl⟩ := List.mem_map.mp hz
    have hm := pa.mem_iff.mp hy
    obtain ⟨e1, e2, _⟩ := entA_in (T := TA) (z := y) (by rw [h.gA.n]; exact hm)
    exact (ask_len (by rw [e2]; exact h.wA _ hm) (h.gA.w _ e1)).2.2
  · rcases List.mem_append.mp hz with hz | hz
    · obtain ⟨y, hy, rfl⟩ := List.mem_map.mp hz
      have hm := ps.mem_iff.mp hy
      obtain ⟨e1, e2, _⟩ := entS_in (T := TS) (z := y) (by rw [h.gS.n]; exact hm)
      exact (sig_len (by rw [e2]; exact h.wS _ hm) (h.gS.w _ e1)).2.2
    · rcases List.mem_cons.mp hz with rfl | hz
      · exact (inp_len h.i).2.2
      · rw [List.mem_singleton.mp hz]; decide +kernel
theorem text_bd {TA : AT} {TS : ST} {na ns inp ya ys : List Str} {rows : List (Row 5)} (h : TxIs TA TS na ns inp rows) (pa : ya.Perm na) (ps : ys.Perm ns) : (headL TA TS inp ya ys ++ lineL 5 rows 1).length ≤ 851 ∧ ((headL TA TS inp ya ys ++ lineL 5 rows 1).map (·.length)).sum + (headL TA TS inp ya ys ++ lineL 5 rows 1).length * ("\n" : Str).length ≤ 16777216 := by
  obtain ⟨h1, h2⟩ := head_bd h pa ps
  obtain ⟨kt, g⟩ := h.g
  obtain ⟨b1, b2⟩ := lineL_bd 5 false rows g 1
  have hz := h.z
  have l : (headL TA TS inp ya ys ++ lineL 5 rows 1).length ≤ 851 := by rw [List.length_append]; omega
  have e : ("\n" : Str).length = 1 := by decide +kernel
  have a3 := sum_le (f := fun z : Str => z.length) (c := 200) (headL TA TS inp ya ys ++ lineL 5 rows 1) fun z hz => by
    rcases List.mem_append.mp hz with hz | hz
    · have := h2 z hz; omega
    · have := b1 z hz; omega
  refine ⟨l, ?_⟩
  rw [e]
  omega
end OR

set_option Elab.async false
set_option maxRecDepth 100000
set_option maxHeartbeats 4000000
set_option linter.all false
namespace OR
open PySem PySem.Spec PyProof.Rows L2 TS2
def letters : Str := "abcdefghijklmnopqrstuvwxyz"
def signAt (i : Nat) : Str := ⟨#[letters.cps.toList.getD i 97]⟩
def styles (z : Str) : List Str := [z, "same" ++ z ++ "end", z ++ "word"]
theorem styles_good : ∀ i, i < 26 → ∀ z ∈ styles (signAt i), GoodW z := by unfold GoodW; decide +kernel
theorem letter_at {i : Nat} (h : i < 26) : atI letters.cps.toList (i : Int) = some (letters.cps.toList.getD i 97) := by
  have hl : letters.cps.toList.length = 26 := by decide +kernel
  refine atI_nat ?_
  rw [List.getD_eq_getElem?_getD, List.getElem?_eq_getElem (by rw [hl]; exact h)]
  rfl
theorem sign_len : ∀ i, i < 26 → (signAt i).length = 1 := by decide +kernel
theorem same_len : ∀ i, i < 26 → (("same" : Str) ++ signAt i).length = 5 := by decide +kernel
theorem map_at {xs : List Str} {i : Nat} (h : i < xs.length) : atI (xs.map V.str) (i : Int) = some (V.str xs[i]) := atI_nat (by simp [h])
def spItem (K : PySem.W.Frag) : Sp := fun vs H Q _ => ∃ (p a : Addr) (ws : List Str), vs = [.ref p, .ref a] ∧ PoolAt H p ∧ H a = some (.lst (ws.map V.str)) ∧ 1 ≤ ws.length ∧ ws.length ≤ 1000 ∧ ∀ w ∈ ws, ∀ H', Adv p H H' → Q (.str w) H'
def nameAt (st s0 i : Nat) : Str := (styles (signAt ((s0 + i) % 26))).getD st ""
theorem styles_inj : ∀ st, st < 3 → ∀ i, i < 26 → ∀ j, j < 26 → (styles (signAt i)).getD st "" = (styles (signAt j)).getD st "" → i = j := by decide +kernel
theorem names_nd {st s0 m : Nat} (h : st < 3) (hm : m ≤ 26) : ((List.range m).map (nameAt st s0)).Nodup := by
  unfold List.Nodup
  rw [List.pairwise_map]
  refine List.Pairwise.imp_of_mem (fun {i j} hi hj ne e => ne ?_) (List.nodup_range (n := m))
  have hi := List.mem_range.mp hi
  have hj := List.mem_range.mp hj
  have := styles_inj st h _ (Nat.mod_lt (s0 + i) (by decide)) _ (Nat.mod_lt (s0 + j) (by decide)) e
  omega
def spLNames (K : PySem.W.Frag) : Sp := fun vs H Q _ => ∃ (p : Addr) (m : Nat), vs = [.ref p, .int m] ∧ PoolAt H p ∧ m ≤ 26 ∧
  ∀ (r : Addr) (H' : Hp) (ns : List Str), Adv p H H' → H r = none → H' r = some (.lst (ns.map V.str)) → ns.length = m → (∀ z ∈ ns, GoodW z) → ns.Nodup → Q (.ref r) H'
section
variable {P : Program} {w : World} {K : PySem.W.Frag} {mg : Str → Option Value} {base : Heap}
theorem ok_item {f : Addr} {fd : FuncData} (F : FnP K "_law_item" "_law_item" s__law_item f fd) (T : Tx w K mg) (G__law_draw : Def P w K mg base CX0 1 "_law_draw" p__law_draw spDraw) : FnOk P w K mg base CX0 2 f fd p__law_item (spItem K) := by
  refine F.ok sc__law_item (fun vs H Q E h => ?_) (fun cdv A outer s H vs Q E hr h => ?_)
  · obtain ⟨p, a, ws, rfl, _⟩ := h
    rfl
  · obtain ⟨p, a, ws, rfl, hp, ha, l1, l2, k⟩ := h
    refine ⟨_, PSs.nox (pss_one (ps_ret (pe_ix ix_list (pv 1) (pe_fn G__law_draw (hr.mono (by omega)) (by rfl) pass0 (pa_cons (pv 0) (pa_cons (pe_callB call_len_seq (by rfl) T.b_len PySem.boot_len (pa_cons (pv 1) pa_nil)) pa_nil))) (fun _ _ => rfl)))), ?_⟩
    refine ⟨_, rfl, _, rfl, _, rfl, a, _, rfl, .inl (SqL.of ha), ?_⟩
    rw [List.length_map]
    dsimp only [tCons, tC, tNil, List.append_nil]
    refine draw_k hp l1 (by omega) fun d H' hd A => ?_
    refine ⟨a, _, d, V.str (ws[d]'hd), rfl, rfl, SqL.of (A.at_ ha hp rfl), atI_nat (by simp [hd]), k _ (List.getElem_mem _) H' A⟩
theorem ok_lnames {f : Addr} {fd : FuncData} (F : FnP K "_law_names" "_law_names" s__law_names f fd) (T : Tx w K mg) (G__law_draw : Def P w K mg base CX0 1 "_law_draw" p__law_draw spDraw) : FnOk P w K mg base CX0 2 f fd p__law_names (spLNames K) := by
  refine F.ok sc__law_names (fun vs H Q E h => ?_) (fun cdv A outer s H vs Q E hr h => ?_)
  · obtain ⟨p, m, rfl, _⟩ := h
    rfl
  · obtain ⟨p, m, rfl, hp, l2, k⟩ := h
    refine ⟨_, PSs.nox (pss_cons (ps_set (i := 2) sc__law_names.nd rfl (.inl rfl) (pe_fn G__law_draw (hr.mono (by omega)) (by rfl) pass0 (pa_cons (pv 0) (pa_cons pe_int pa_nil))))
      (pss_cons (ps_set (i := 3) sc__law_names.nd rfl (.inl rfl) (pe_fn G__law_draw (hr.mono (by omega)) (by rfl) pass0 (pa_cons (pv 0) (pa_cons pe_int pa_nil))))
      (pss_cons (ps_set (i := 4) sc__law_names.nd rfl (.inl rfl) (pe_lst pa_nil))
      (pss_cons (ps_for PassesOwn.never rfl (pi_range1 (by rfl) T.b_range (pa_cons (pv 1) pa_nil)) (pg_name (i := 5) sc__law_names.nd rfl (.inl rfl)) (pss_cons (ps_set (i := 6) sc__law_names.nd rfl (.inl rfl) (pe_ix ix_str pe_str (pe_op op_modN (pe_op op_add (pv 3) (pv 5)) pe_int) (fun _ _ => rfl)))
      (pss_one (ps_expr (pe_bm PySem.F.plainAttrs_list PySem.F.slot_list_append PySem.F.type_list_append mt_append (pv 4) (pa_cons (pe_ix ix_list (pe_lst (pa_cons (pv 6) (pa_cons (pe_op op_add_str (pe_op op_add_str pe_str (pv 6)) pe_str) (pa_cons (pe_op op_add_str (pv 6) pe_str) pa_nil)))) (pv 2) (fun _ _ => rfl)) pa_nil))))))
      (pss_one (ps_ret (pv 4))))))), ?_⟩
    refine ⟨_, rfl, ?_⟩
    dsimp only [tCons, tC, tNil, List.append_nil]
    refine draw_k (m := 3) hp (by decide) (by decide) fun st H1 hst A1 => ?_
    refine ⟨_, rfl, ?_⟩
    dsimp only [tCons, tC, tNil, List.append_nil]
    refine draw_k (m := 26) A1.p (by decide) (by decide) fun s0 H2 hs0 A2 => ?_
    have A12 := A1.trans A2
    refine ⟨by show 0 ≤ sizeLine; decide, fun D nD => ?_⟩
    refine ⟨_, rfl, (m : Int), rfl, by show -(2 ^ 62 : Int) ≤ (m : Int); omega, by show (m : Int) < 2 ^ 62; omega, ?_⟩
    refine for_range (lo := 0) (n := (m : Int).toNat) (fun i σ H' => ∃ (ns : List Str) (v5 v6 : Option V), σ = [some (.ref p), some (.int m), some (.int st), some (.int s0), some (.ref D), v5, v6] ∧ Adv p H H' ∧ H' D = some (.lst (ns.map V.str)) ∧ ns = (List.range i).map (nameAt st s0) ∧ ∀ z ∈ ns, GoodW z)
      ⟨[], none, none, rfl, A12.same (Same.new nD), upd_same, rfl, by simp⟩ (fun i σ H' hi y => ?_) (fun σ H' y => ?_)
    · obtain ⟨ns, v5, v6, rfl, A, hD, ln, hg⟩ := y
      refine ⟨_, rfl, _, rfl, _, _, rfl, rfl, _, _, rfl, rfl, (by show (26 : Int) ≠ 0; decide), ?_⟩
      have em : ((s0 : Int) + (0 + (i : Int))).fmod 26 = (((s0 + i) % 26 : Nat) : Int) := by
        rw [Int.fmod_eq_emod_of_nonneg _ (by decide)]
        omega
      have hm : (s0 + i) % 26 < 26 := Nat.mod_lt _ (by decide)
      generalize hj : (s0 + i) % 26 = j at hm em
      refine ⟨letters, (j : Int), _, rfl, congrArg V.int em, by decide +kernel, letter_at hm, ?_⟩
      have h1 : ("same" : Str).length + (signAt j).length ≤ sizeLine := by rw [sign_len j hm]; decide +kernel
      have h2 : (("same" : Str) ++ signAt j).length + ("end" : Str).length ≤ sizeLine := by rw [show (("same" : Str) ++ signAt j).length = 5 from same_len j hm]; decide +kernel
      have h3 : (signAt j).length + ("word" : Str).length ≤ sizeLine := by rw [sign_len j hm]; decide +kernel
      refine ⟨_, rfl, .inl ⟨rfl, _, SqL.of hD⟩, _, rfl, _, rfl, _, _, rfl, rfl, h1, _, _, rfl, rfl, h2, _, rfl, _, _, rfl, rfl, h3, ?_⟩
      refine ⟨by show 3 ≤ sizeLine; decide, fun L nL => ?_⟩
      have DL : D ≠ L := ne_of_none hD nL
      have SL := Same.new (o := .lst ((styles (signAt j)).map V.str)) nL
      refine ⟨_, rfl, L, (styles (signAt j)).map V.str, (st : Nat), V.str ((styles (signAt j))[st]'hst), rfl, rfl, SqL.of upd_same, map_at (xs := styles (signAt j)) hst, ?_⟩
      have ll : ns.length = i := by rw [ln, List.length_map, List.length_range]
      refine ⟨D, _, _, rfl, rfl, SL _ _ hD, small1000 (by rw [List.length_map, ll]; omega), ?_⟩
      refine ⟨ns ++ [(styles (signAt j))[st]'hst], _, _, rfl, ?_, ?_, ?_, ?_⟩
      · have A' := A.same SL
        refine ⟨fun b o e n => ?_, ?_, fun b e => ?_⟩
        · rw [upd_ne (fun z => by subst z; rw [A12.f _ nD] at e; cases e)]
          exact A'.k b o e n
        · obtain ⟨x, y, z, h⟩ := A'.p
          exact ⟨x, y, z, by rw [upd_ne (fun z => by subst z; rw [SL _ _ hD] at h; cases h)]; exact h⟩
        · by_cases z : b = D
          · rw [z, upd_same] at e; cases e
          · rw [upd_ne z] at e; exact A'.f b e
      · rw [upd_same, List.map_append]
        rfl
      · rw [List.range_succ, List.map_append, ← ln]
        congr 1
        show [_] = [(styles (signAt ((s0 + i) % 26))).getD st ""]
        rw [← hj]
        rw [List.getD_eq_getElem?_getD, List.getElem?_eq_getElem (show st < (styles (signAt ((s0 + i) % 26))).length from hst)]
        rfl
      · intro z hz
        rcases List.mem_append.mp hz with q | q
        · exact hg z q
        · rw [List.mem_singleton.mp q]
          exact styles_good j hm _ (List.getElem_mem _)
    · obtain ⟨ns, v5, v6, rfl, A, hD, ln, hg⟩ := y
      exact ⟨_, rfl, k D H' ns A (A12.f _ nD) hD (by rw [ln, List.length_map, List.length_range]; omega) hg (by rw [ln]; exact names_nd hst (by omega))⟩
end
end OR

set_option Elab.async false
set_option maxRecDepth 100000
set_option maxHeartbeats 8000000
set_option linter.all false
namespace OR
open PySem PySem.Spec PyProof.Rows L2 TS2
/-- what stands while parts are drawn: the pool moved on, new things -/
structure Md (H Hc : Hp) (p : Addr) (m : List (Addr × HO)) : Prop where
  hp : PoolAt H p
  a : Adv p H Hc
  mm : ∀ x ∈ m, Hc x.1 = some x.2 ∧ H x.1 = none
  nd : (m.map (·.1)).Nodup
section
variable {H Hc H2 : Hp} {p q : Addr} {m m' m1 m2 : List (Addr × HO)} {o : HO}
theorem Md.start (hp : PoolAt H p) : Md H H p [] := ⟨hp, Adv.refl hp, (fun x hx => by cases hx), List.nodup_nil⟩
theorem Md.np (h : Md H Hc p m) (n : H q = none) : q ≠ p := fun z => by
  obtain ⟨_, _, _, e⟩ := h.hp
  rw [z, e] at n
  cases n
theorem Md.call (h : Md H Hc p m) (a : Adv p Hc H2) : Md H H2 p m := ⟨h.hp, h.a.trans a, fun x hx => by
  obtain ⟨e, n⟩ := h.mm x hx
  exact ⟨a.k _ _ e (h.np n), n⟩, h.nd⟩
theorem Md.ret (h : Md H Hc p m) (a : Adv p Hc H2) (n : Hc q = none) (e : H2 q = some o) : Md H H2 p ((q, o) :: m) := by
  have g := h.call a
  refine ⟨g.hp, g.a, fun x hx => ?_, ?_⟩
  · rcases List.mem_cons.mp hx with rfl | hx
    · exact ⟨e, h.a.f _ n⟩
    · exact g.mm x hx
  · rw [List.map_cons, List.nodup_cons]
    refine ⟨fun hq => ?_, h.nd⟩
    obtain ⟨x, hx, e2⟩ := List.mem_map.mp hq
    have e1 := (h.mm x hx).1
    rw [show x.1 = q from e2, n] at e1
    cases e1
theorem Md.same (h : Md H Hc p m) (s : Same Hc H2) : Md H H2 p m := h.call ((Adv.refl h.a.p).same s)
theorem Md.new (h : Md H Hc p m) (n : Hc q = none) (o : HO) : Md H (upd Hc q o) p ((q, o) :: m) := h.ret ((Adv.refl h.a.p).same (Same.new n)) n upd_same
theorem Md.put (h : Md H Hc p (m1 ++ (q, o) :: m2)) (o' : HO) : Md H (upd Hc q o') p (m1 ++ (q, o') :: m2) := by
  obtain ⟨e, n⟩ := h.mm (q, o) (List.mem_append_right _ List.mem_cons_self)
  have e : Hc q = some o := e
  have n : H q = none := n
  have qp := h.np n
  have nd := h.nd
  rw [List.map_append, List.map_cons, List.nodup_append, List.nodup_cons] at nd
  obtain ⟨nd1, ⟨nd2, nd3⟩, nd4⟩ := nd
  refine ⟨h.hp, ⟨fun b u eb nb => ?_, ?_, fun b eb => ?_⟩, fun x hx => ?_, ?_⟩
  · rw [upd_ne (ne_of_none eb n)]
    exact h.a.k b u eb nb
  · obtain ⟨x, y, z, ep⟩ := h.a.p
    exact ⟨x, y, z, by rw [upd_ne qp.symm]; exact ep⟩
  · by_cases c : b = q
    · rw [c]; exact n
    · rw [upd_ne c] at eb
      exact h.a.f b eb
  · have old : ∀ y, y ∈ m1 ++ (q, o) :: m2 → y.1 ≠ q → upd Hc q o' y.1 = some y.2 ∧ H y.1 = none := fun y hy ny => by
      obtain ⟨e1, e2⟩ := h.mm y hy
      exact ⟨by rw [upd_ne ny]; exact e1, e2⟩
    rcases List.mem_append.mp hx with hx | hx
    · exact old x (List.mem_append_left _ hx) (nd4 _ (List.mem_map.mpr ⟨x, hx, rfl⟩) _ List.mem_cons_self)
    · rcases List.mem_cons.mp hx with rfl | hx
      · exact ⟨upd_same, n⟩
      · exact old x (List.mem_append_right _ (List.mem_cons_of_mem _ hx)) fun z => nd2 (z ▸ List.mem_map.mpr ⟨x, hx, rfl⟩)
  · rw [List.map_append, List.map_cons, List.nodup_append, List.nodup_cons]
    exact ⟨nd1, ⟨nd2, nd3⟩, nd4⟩
theorem Md.perm (h : Md H Hc p m) (e : m'.Perm m) : Md H Hc p m' := ⟨h.hp, h.a, fun x hx => h.mm x (e.mem_iff.mp hx), (e.map _).nodup_iff.mpr h.nd⟩
theorem Md.sub (h : Md H Hc p m) (e : m'.Sublist m) : Md H Hc p m' := ⟨h.hp, h.a, fun x hx => h.mm x (e.subset hx), h.nd.sublist (e.map _)⟩
theorem Md.nth (h : Md H Hc p m) (i : Nat) {x : Addr × HO} (e : m[i]? = some x) : Hc x.1 = some x.2 := (h.mm x (List.mem_of_getElem? e)).1
theorem Md.fr (h : Md H Hc p m) (i : Nat) {x : Addr × HO} (e : m[i]? = some x) : H x.1 = none := (h.mm x (List.mem_of_getElem? e)).2
theorem Md.ne (h : Md H Hc p m) (i j : Nat) {x y : Addr × HO} (e : m[i]? = some x) (f : m[j]? = some y) (n : i ≠ j) : x.1 ≠ y.1 := fun z => by
  have hi := (List.getElem?_eq_some_iff.mp e)
  have hj := (List.getElem?_eq_some_iff.mp f)
  obtain ⟨l1, e1⟩ := hi
  obtain ⟨l2, e2⟩ := hj
  refine n ((List.getElem_inj (h₀ := by rw [List.length_map]; exact l1) (h₁ := by rw [List.length_map]; exact l2) h.nd).mp ?_)
  rw [List.getElem_map, List.getElem_map, e1, e2]
  exact z
theorem Md.pick {c r : List (Addr × HO)} (h : Md H Hc p (c ++ r)) (is : List Nat) (hn : is.Nodup) : Md H Hc p (is.filterMap (fun i => c[i]?) ++ r) := by
  have inC : ∀ x, x ∈ is.filterMap (fun i => c[i]?) → x ∈ c := fun x hx => by
    obtain ⟨i, _, e⟩ := List.mem_filterMap.mp hx
    exact List.mem_of_getElem? e
  have nd := h.nd
  rw [List.map_append, List.nodup_append] at nd
  obtain ⟨nd1, nd2, nd3⟩ := nd
  refine ⟨h.hp, h.a, fun x hx => ?_, ?_⟩
  · rcases List.mem_append.mp hx with hx | hx
    · exact h.mm x (List.mem_append_left _ (inC x hx))
    · exact h.mm x (List.mem_append_right _ hx)
  · rw [List.map_append, List.nodup_append]
    refine ⟨?_, nd2, fun x hx y hy => ?_⟩
    · unfold List.Nodup
      rw [List.pairwise_map, List.pairwise_filterMap]
      refine List.Pairwise.imp (fun {i j} n x ex y ey => ?_) hn
      intro z
      obtain ⟨l1, e1⟩ := List.getElem?_eq_some_iff.mp ex
      obtain ⟨l2, e2⟩ := List.getElem?_eq_some_iff.mp ey
      refine n ((List.getElem_inj (h₀ := by rw [List.length_map]; exact l1) (h₁ := by rw [List.length_map]; exact l2) nd1).mp ?_)
      rw [List.getElem_map, List.getElem_map, e1, e2]
      exact z
    · obtain ⟨u, hu, rfl⟩ := List.mem_map.mp hx
      exact nd3 _ (List.mem_map.mpr ⟨u, inC u hu, rfl⟩) y hy
end
end OR

set_option Elab.async false
set_option maxRecDepth 100000
set_option maxHeartbeats 8000000
set_option linter.all false
namespace OR
open PySem PySem.Spec PyProof.Rows L2 TS2
def spK (n a s i R : Addr) : List (Key × V) := [(.inr "names", .ref n), (.inr "asks", .ref a), (.inr "signals", .ref s), (.inr "inputs", .ref i), (.inr "rows", .ref R)]
/-- a spec without rows stands at sd -/
structure SpecAt (H : Hp) (sd n a s i R : Addr) (kt : Kit) (TA : AT) (TS : ST) : Prop where
  sd : H sd = some (.dK (spK n a s i R))
  nm : Nm H n kt
  a : H a = some (.dK (ATk TA))
  s : H s = some (.dK (STk TS))
  i : H i = some (.tup (kt.inputs.map V.str))
  tm : ∀ x ∈ ATm TA ++ STm TS, H x.1 = some x.2
structure SpecIs (kt : Kit) (TA : AT) (TS : ST) : Prop where
  nm : kt.Nm
  gA : AGood TA kt.asks
  gS : SGood TS kt.sigs
  i : WsOk 3 kt.inputs
def spParts (K : PySem.W.Frag) : Sp := fun vs H Q _ => ∃ (p : Addr), vs = [.ref p] ∧ PoolAt H p ∧
  ∀ (H' : Hp) (sd n a s i R : Addr) (kt : Kit) (TA : AT) (TS : ST), Adv p H H' → H sd = none → H n = none → H a = none → H s = none → (sd ≠ n ∧ sd ≠ a ∧ sd ≠ s ∧ n ≠ a ∧ n ≠ s ∧ a ≠ s) → SpecAt H' sd n a s i R kt TA TS → H' R = some (.lst []) → SpecIs kt TA TS → Q (.ref sd) H'
section
variable {P : Program} {w : World} {K : PySem.W.Frag} {mg : Str → Option Value} {base : Heap}
theorem ok_parts {f : Addr} {fd : FuncData} (F : FnP K "_law_parts" "_law_parts" s__law_parts f fd) (T : Tx w K mg) (G__law_draw : Def P w K mg base CX0 1 "_law_draw" p__law_draw spDraw) (G__law_names : Def P w K mg base CX0 2 "_law_names" p__law_names (spLNames K)) : FnOk P w K mg base CX0 3 f fd p__law_parts (spParts K) := by
  refine F.ok sc__law_parts (fun vs H Q E h => ?_) (fun cdv A outer s H vs Q E hr h => ?_)
  · obtain ⟨p, rfl, _⟩ := h
    rfl
  · obtain ⟨p, rfl, hp, k⟩ := h
    have hu := hu_of hr
    refine ⟨_, PSs.nox (pss_cons (ps_set (i := 1) sc__law_parts.nd rfl (.inl rfl) (pe_fn G__law_names (hr.mono (by omega)) (by rfl) pass0 (pa_cons (pv 0) (pa_cons pe_int pa_nil))))
      (pss_cons (ps_set (i := 2) sc__law_parts.nd rfl (.inl rfl) (pe_disp (pps_cons pe_str (pe_fn G__law_names (hr.mono (by omega)) (by rfl) pass0 (pa_cons (pv 0) (pa_cons pe_int pa_nil))) (pps_cons pe_str (pe_fn G__law_names (hr.mono (by omega)) (by rfl) pass0 (pa_cons (pv 0) (pa_cons pe_int pa_nil))) (pps_cons pe_str (pv 1) (pps_cons pe_str (pe_fn G__law_names (hr.mono (by omega)) (by rfl) pass0 (pa_cons (pv 0) (pa_cons pe_int pa_nil))) pps_nil)))) (by rfl) (by rfl) (fun z => by cases z) (by decide)))
      (pss_cons (ps_dput hu (pv 2) pe_str (pe_fn G__law_names (hr.mono (by omega)) (by rfl) pass0 (pa_cons (pv 0) (pa_cons pe_int pa_nil))) rfl)
      (pss_cons (ps_dput hu (pv 2) pe_str (pe_lst pa_nil) rfl)
      (pss_cons (ps_set (i := 3) sc__law_parts.nd rfl (.inl rfl) pe_dnewK)
      (pss_cons (ps_for PassesOwn.never rfl (pi_list (pe_dget hu (pv 2) pe_str (fun _ _ => rfl))) (pg_name (i := 4) sc__law_parts.nd rfl (.inl rfl)) (pss_one (ps_dput hu (pv 3) (pv 4) (pe_callTy call_tuple_of (by rfl) T.b_tuple (by decide +kernel) (pa_cons (pe_slice sl_list (pv 1) (po_some (pe_fn G__law_draw (hr.mono (by omega)) (by rfl) pass0 (pa_cons (pv 0) (pa_cons pe_int pa_nil)))) (po_some pe_int)) pa_nil)) rfl)))
      (pss_cons (ps_set (i := 5) sc__law_parts.nd rfl (.inl rfl) pe_dnewK)
      (C8.pss_cut (ps_if (pt_cmpR op_eq (pe_fn G__law_draw (hr.mono (by omega)) (by rfl) pass0 (pa_cons (pv 0) (pa_cons pe_int pa_nil))) pe_int (nomark _)) (pss_cons (ps_dput hu (pv 2) pe_str (pe_fn G__law_names (hr.mono (by omega)) (by rfl) pass0 (pa_cons (pv 0) (pa_cons pe_int pa_nil))) rfl)
      (pss_one (ps_dput hu (pv 5) (pe_ix ix_list (pe_dget hu (pv 2) pe_str (fun _ _ => rfl)) pe_int (fun _ _ => rfl)) (pe_tup (pa_cons (pe_op op_add pe_int (pe_fn G__law_draw (hr.mono (by omega)) (by rfl) pass0 (pa_cons (pv 0) (pa_cons pe_int pa_nil)))) (pa_cons (pe_tup (pa_cons (pe_ix ix_list (pv 1) pe_int (fun _ _ => rfl)) pa_nil)) pa_nil))) rfl))) pss_nil)
      (pss_cons (ps_set (i := 6) sc__law_parts.nd rfl (.inl rfl) (pe_tup (pa_cons pe_str pa_nil)))
      (C8.pss_cut (ps_if (pt_cmpR op_eq (pe_fn G__law_draw (hr.mono (by omega)) (by rfl) pass0 (pa_cons (pv 0) (pa_cons pe_int pa_nil))) pe_int (nomark _)) (pss_one (ps_set (i := 6) sc__law_parts.nd rfl (.inl rfl) (pe_callTy call_tuple_of (by rfl) T.b_tuple (by decide +kernel) (pa_cons (pe_slice sl_list (pv 1) (po_some pe_int) (po_some (pe_op op_add pe_int (pe_fn G__law_draw (hr.mono (by omega)) (by rfl) pass0 (pa_cons (pv 0) (pa_cons pe_int pa_nil)))))) pa_nil)))) pss_nil)
      (pss_one (ps_ret (pe_disp (pps_cons pe_str (pv 2) (pps_cons pe_str (pv 3) (pps_cons pe_str (pv 5) (pps_cons pe_str (pv 6) (pps_cons pe_str (pe_lst pa_nil) pps_nil))))) (by rfl) (by rfl) (fun z => by cases z) (by decide)))))))))))))), ?_⟩
    refine ⟨_, rfl, p, 3, rfl, hp, by decide, fun W H1 ws A1 nW hW lw gw dw => ?_⟩
    have M := (Md.start hp).ret A1 nW hW
    intro n nn
    replace M := M.new nn (.dK [])
    generalize upd H1 n (.dK []) = H2 at M ⊢
    refine ⟨_, rfl, p, 3, rfl, M.a.p, by decide, fun La H3 la A3 nLa hLa lla gla dla => ?_⟩
    replace M := M.ret A3 nLa hLa
    refine ⟨_, rfl, p, 2, rfl, M.a.p, by decide, fun Ls H4 ls A4 nLs hLs lls gls dls => ?_⟩
    replace M := M.ret A4 nLs hLs
    refine ⟨_, rfl, ?_⟩
    refine ⟨_, rfl, p, 2, rfl, M.a.p, by decide, fun Li H5 li A5 nLi hLi lli gli dli => ?_⟩
    replace M := M.ret A5 nLi hLi
    clear A1 nW hW A3 nLa hLa A4 nLs hLs A5 nLi hLi nn
    refine ⟨M.nth 3 rfl, [(.inr "labels", .ref La), (.inr "slots", .ref Ls), (.inr "words", .ref W), (.inr "ids", .ref Li)], rfl, by show 4 ≤ 15; decide, ?_⟩
    rw [show mergeK [] [((.inr "labels" : Key), V.ref La), (.inr "slots", .ref Ls), (.inr "words", .ref W), (.inr "ids", .ref Li)] = [((.inr "labels" : Key), V.ref La), (.inr "slots", .ref Ls), (.inr "words", .ref W), (.inr "ids", .ref Li)] from rfl]
    replace M := M.put (m1 := [(Li, _), (Ls, _), (La, _)]) (.dK [((.inr "labels" : Key), V.ref La), (.inr "slots", .ref Ls), (.inr "words", .ref W), (.inr "ids", .ref Li)])
    generalize upd H5 n (.dK [((.inr "labels" : Key), V.ref La), (.inr "slots", .ref Ls), (.inr "words", .ref W), (.inr "ids", .ref Li)]) = H6 at M ⊢
    refine ⟨_, rfl, p, 2, rfl, M.a.p, by decide, fun As H7 as A7 nAs hAs las gas das => ?_⟩
    replace M := M.ret A7 nAs hAs
    clear A7 nAs hAs
    refine ⟨_, rfl, n, _, rfl, DPut.k (k := .inr "asks") (M.nth 4 rfl) (small1000 (by show 4 ≤ 1000; decide)), ?_⟩
    rw [show putK [((.inr "labels" : Key), V.ref La), (.inr "slots", .ref Ls), (.inr "words", .ref W), (.inr "ids", .ref Li)] (.inr "asks") (.ref As) = [((.inr "labels" : Key), V.ref La), (.inr "slots", .ref Ls), (.inr "words", .ref W), (.inr "ids", .ref Li), (.inr "asks", .ref As)] from rfl]
    replace M := M.put (m1 := [(As, _), (Li, _), (Ls, _), (La, _)]) (.dK [((.inr "labels" : Key), V.ref La), (.inr "slots", .ref Ls), (.inr "words", .ref W), (.inr "ids", .ref Li), (.inr "asks", .ref As)])
    generalize upd H7 n (.dK [((.inr "labels" : Key), V.ref La), (.inr "slots", .ref Ls), (.inr "words", .ref W), (.inr "ids", .ref Li), (.inr "asks", .ref As)]) = H8 at M ⊢
    refine ⟨by show 0 ≤ sizeLine; decide, fun B nB => ?_⟩
    replace M := M.new nB (.lst [])
    generalize upd H8 B (.lst []) = H9 at M ⊢
    refine ⟨_, rfl, n, _, rfl, DPut.k (k := .inr "boxes") (M.nth 5 rfl) (small1000 (by show 5 ≤ 1000; decide)), ?_⟩
    rw [show putK [((.inr "labels" : Key), V.ref La), (.inr "slots", .ref Ls), (.inr "words", .ref W), (.inr "ids", .ref Li), (.inr "asks", .ref As)] (.inr "boxes") (.ref B) = nmL La Ls W Li As B from rfl]
    replace M := M.put (m1 := [(B, _), (As, _), (Li, _), (Ls, _), (La, _)]) (.dK (nmL La Ls W Li As B))
    generalize upd H9 n (.dK (nmL La Ls W Li As B)) = H10 at M ⊢
    clear nB
    intro a na
    replace M := M.new na (.dK [])
    generalize upd H10 a (.dK []) = H11 at M ⊢
    obtain ⟨w0, w1, w2, rfl⟩ : ∃ w0 w1 w2, ws = [w0, w1, w2] := by
      match ws, lw with
      | [x, y, z], _ => exact ⟨x, y, z, rfl⟩
    obtain ⟨ms, hms⟩ : ∃ ms : List (Addr × HO), [(B, HO.lst []), (As, HO.lst (as.map V.str)), (Li, HO.lst (li.map V.str)), (Ls, HO.lst (ls.map V.str)), (La, HO.lst (la.map V.str)), (n, HO.dK (nmL La Ls W Li As B)), (W, HO.lst ([w0, w1, w2].map V.str))] = ms := ⟨_, rfl⟩
    replace M : Md H H11 p ((a, HO.dK []) :: ms) := by rw [← hms]; exact M
    have eAs : ms[1]? = some (As, HO.lst (as.map V.str)) := by rw [← hms]; rfl
    have eN : ms[5]? = some (n, HO.dK (nmL La Ls W Li As B)) := by rw [← hms]; rfl
    have eW : ms[6]? = some (W, HO.lst ([w0, w1, w2].map V.str)) := by rw [← hms]; rfl
    have at2 : ∀ {T : AT} {L : List (Key × V)} {i : Nat} {x : Addr × HO}, ms[i]? = some x → x ∈ ATm T ++ (a, HO.dK L) :: ms := fun {T L i x} e => List.mem_append_right _ (List.mem_cons_of_mem _ (List.mem_of_getElem? e))
    refine ⟨_, rfl, n, _, rfl, DGet.k (k := .inr "asks") (M.nth 6 eN), As, rfl, ⟨_, SqL.of (M.nth 2 eAs)⟩, ?_⟩
    refine for_it (walk_list (K := K) (a := As) (xs := as.map V.str)) (fun i σ' H' => ∃ (TA : AT) (v4 : Option V), σ' = [some (.ref p), some (.ref W), some (.ref n), some (.ref a), v4, none, none] ∧ AGood TA (as.take i) ∧ Md H H' p (ATm TA ++ (a, HO.dK (ATk TA)) :: ms))
      ⟨[], _, rfl, ⟨by simp, fun x hx => by cases hx⟩, M⟩ (fun i σ' H' _ q => ?_) (fun i x σ' H3 H4 hi q y => ?_) (fun σ' H3 q => ?_)
    · obtain ⟨TA, v4, _, _, M⟩ := q
      exact SqL.of (M.mm _ (at2 eAs)).1
    · obtain ⟨TA, v4, rfl, gT, M⟩ := q
      obtain ⟨rfl, hx⟩ := y
      rw [List.getElem?_map] at hx
      cases ez : as[i]? with
      | none => rw [ez] at hx; cases hx
      | some z =>
      rw [ez] at hx
      cases Option.some.inj hx
      have zn := take_nd das ez
      refine ⟨_, rfl, _, rfl, ?_⟩
      dsimp only [tCons, tC, tNil, List.append_nil]
      refine draw_k (m := 2) M.a.p (by decide) (by decide) fun d H5 hd A5 => ?_
      replace M := M.call A5
      refine ⟨_, rfl, _, rfl, W, _, rfl, SqL.of (M.mm _ (at2 eW)).1, fun q nq => ?_⟩
      have ecut : ∃ ls1 : List Str, cutV (List.map V.str [w0, w1, w2]) (some (d : Int)) (some 2) = ls1.map V.str ∧ WsOk 4 ls1 := by
        have g : ∀ z ∈ [w0, w1, w2], isWord z = true := fun z hz => (gw z hz).1
        have d01 : w0 ≠ w1 := fun e => by subst e; simp at dw
        match d, hd with
        | 0, _ => exact ⟨[w0, w1], rfl, fun z hz => g z (by simp at hz ⊢; rcases hz with h | h <;> simp [h]), by simp [d01], by show 1 ≤ 2; decide, by show 2 ≤ 4; decide⟩
        | 1, _ => exact ⟨[w1], rfl, fun z hz => g z (by simp at hz ⊢; simp [hz]), by simp, by show 1 ≤ 1; decide, by show 1 ≤ 4; decide⟩
      obtain ⟨ls1, e1, ok1⟩ := ecut
      rw [e1]
      replace M := M.new nq (.lst (ls1.map V.str))
      generalize upd H5 q (.lst (ls1.map V.str)) = H6 at M ⊢
      refine ⟨q, _, rfl, .inl ⟨SqL.of (M.nth 0 rfl), fun t nt => ?_⟩⟩
      replace M := M.new nt (.tup (ls1.map V.str))
      generalize upd H6 t (.tup (ls1.map V.str)) = H7 at M ⊢
      have lka : (ATk TA).length ≤ 1000 := by
        have h1 := congrArg List.length gT.n
        rw [List.length_map, List.length_take] at h1
        unfold ATk
        rw [List.length_map]
        omega
      replace M : Md H H7 p (ATm (TA ++ [(z, t, ls1)]) ++ (a, HO.dK (ATk TA)) :: ms) := by
        have M2 := M.sub (m' := (t, HO.tup (ls1.map V.str)) :: (ATm TA ++ (a, HO.dK (ATk TA)) :: ms)) (List.Sublist.cons₂ _ (List.sublist_cons_self _ _))
        refine M2.perm ?_
        unfold ATm
        rw [List.map_append, List.append_assoc]
        exact List.perm_middle
      refine ⟨_, rfl, _, rfl, a, _, rfl, DPut.k (k := .inr z) (M.mm (a, HO.dK (ATk TA)) (List.mem_append_right _ List.mem_cons_self)).1 (small1000 lka), ?_⟩
      rw [atk_put gT zn (ws := ls1)]
      exact ⟨TA ++ [(z, t, ls1)], _, rfl, by rw [take_more ez]; exact agood_more gT ok1, M.put _⟩
    obtain ⟨TA, v4, rfl, gA, M⟩ := q
    rw [List.length_map, List.take_length] at gA
    intro s' ns
    replace M := (M.perm List.perm_append_comm).new ns (.dK [])
    generalize upd H3 s' (.dK []) = H4 at M ⊢
    rw [← hms] at M
    have M2 : Md H H4 p ([(s', HO.dK []), (n, HO.dK (nmL La Ls W Li As B)), (B, HO.lst []), (As, HO.lst (as.map V.str)), (Li, HO.lst (li.map V.str)), (Ls, HO.lst (ls.map V.str)), (La, HO.lst (la.map V.str)), (W, HO.lst ([w0, w1, w2].map V.str)), (a, HO.dK (ATk TA))] ++ ATm TA) := M.pick (c := [(s', HO.dK []), (a, HO.dK (ATk TA)), (B, HO.lst []), (As, HO.lst (as.map V.str)), (Li, HO.lst (li.map V.str)), (Ls, HO.lst (ls.map V.str)), (La, HO.lst (la.map V.str)), (n, HO.dK (nmL La Ls W Li As B)), (W, HO.lst ([w0, w1, w2].map V.str))]) (r := ATm TA) [0, 7, 2, 3, 4, 5, 6, 8, 1] (by decide)
    clear M at2 eAs eN eW hms
    obtain ⟨mR, hR⟩ : ∃ mR : List (Addr × HO), mR = [(As, HO.lst (as.map V.str)), (Li, HO.lst (li.map V.str)), (Ls, HO.lst (ls.map V.str)), (La, HO.lst (la.map V.str)), (W, HO.lst ([w0, w1, w2].map V.str)), (a, HO.dK (ATk TA))] ++ ATm TA := ⟨_, rfl⟩
    replace M2 : Md H H4 p ((s', HO.dK []) :: (n, HO.dK (nmL La Ls W Li As B)) :: (B, HO.lst []) :: mR) := by rw [hR]; exact M2
    have eW : mR[4]? = some (W, HO.lst ([w0, w1, w2].map V.str)) := by rw [hR]; rfl
    refine ⟨fun σ' H' => ∃ (B' : Addr) (bs : List Str) (TS : ST), σ' = [some (.ref p), some (.ref W), some (.ref n), some (.ref a), v4, some (.ref s'), none] ∧ bs.length ≤ 1 ∧ (∀ z ∈ bs, GoodW z) ∧ SGood TS bs ∧ Md H H' p ((s', HO.dK (STk TS)) :: (n, HO.dK (nmL La Ls W Li As B')) :: (B', HO.lst (bs.map V.str)) :: (mR ++ STm TS)), ?_, ?_⟩
    · refine ⟨_, rfl, ?_⟩
      dsimp only [tCons, tC, tNil, List.append_nil]
      refine draw_k (m := 3) M2.a.p (by decide) (by decide) fun d H5 hd A5 => ?_
      have M3 := M2.call A5
      refine ⟨rfl, _, rfl, ite2 (fun hb => ?_) fun hb => ?_⟩
      · refine ⟨_, rfl, p, 1, rfl, M3.a.p, by decide, fun B' H6 bs A6 nB hB lb gb db => ?_⟩
        replace M3 := M3.ret A6 nB hB
        refine ⟨_, rfl, n, _, rfl, DPut.k (k := .inr "boxes") (M3.nth 2 rfl) (small1000 (by show 6 ≤ 1000; decide)), ?_⟩
        rw [show putK (nmL La Ls W Li As B) (.inr "boxes") (.ref B') = nmL La Ls W Li As B' from rfl]
        replace M3 := M3.put (m1 := [(B', _), (s', _)]) (.dK (nmL La Ls W Li As B'))
        generalize upd H6 n (.dK (nmL La Ls W Li As B')) = H7 at M3 ⊢
        obtain ⟨b0, rfl⟩ : ∃ b0, bs = [b0] := by
          match bs, lb with
          | [x], _ => exact ⟨x, rfl⟩
        refine ⟨_, rfl, ?_⟩
        dsimp only [tCons, tC, tNil, List.append_nil]
        refine draw_k (m := 2) M3.a.p (by decide) (by decide) fun r H8 hr A8 => ?_
        replace M3 := M3.call A8
        refine ⟨_, _, rfl, rfl, ?_⟩
        refine ⟨_, rfl, W, _, 2, .str w2, rfl, rfl, SqL.of (M3.nth 8 eW), atI_nat rfl, ?_⟩
        refine ⟨by show 1 ≤ sizeLine; decide, fun u nu => ?_⟩
        replace M3 := M3.new nu (.tup [.str w2])
        generalize upd H8 u (.tup [.str w2]) = H9 at M3 ⊢
        refine ⟨by show 2 ≤ sizeLine; decide, fun t nt => ?_⟩
        replace M3 := M3.new nt (.tup [.int (1 + (r : Int)), .ref u])
        generalize upd H9 t (.tup [.int (1 + (r : Int)), .ref u]) = H10 at M3 ⊢
        have e1 : (1 + (r : Int)) = ((1 + r : Nat) : Int) := by omega
        rw [e1] at M3
        refine ⟨_, rfl, _, rfl, n, _, rfl, DGet.k (k := .inr "boxes") (M3.nth 4 rfl), B', _, 0, .str b0, rfl, rfl, SqL.of (M3.nth 2 rfl), atI_nat rfl, s', _, rfl, DPut.k (k := .inr b0) (M3.nth 3 rfl) (small1000 (by show 0 ≤ 1000; decide)), ?_⟩
        have M4 : Md H H10 p ((s', HO.dK []) :: (n, HO.dK (nmL La Ls W Li As B')) :: (B', HO.lst ([b0].map V.str)) :: ([(t, HO.tup [.int ((1 + r : Nat) : Int), .ref u]), (u, HO.tup [.str w2])] ++ mR)) :=
          M3.pick (c := [(t, HO.tup [.int ((1 + r : Nat) : Int), .ref u]), (u, HO.tup [.str w2]), (B', HO.lst ([b0].map V.str)), (s', HO.dK []), (n, HO.dK (nmL La Ls W Li As B')), (B, HO.lst [])]) (r := mR) [3, 4, 2, 0, 1] (by decide)
        have M5 : Md H H10 p ((s', HO.dK []) :: (n, HO.dK (nmL La Ls W Li As B')) :: (B', HO.lst ([b0].map V.str)) :: (mR ++ [(t, HO.tup [.int ((1 + r : Nat) : Int), .ref u]), (u, HO.tup [.str w2])])) := M4.perm (((List.perm_append_comm).cons _).cons _ |>.cons _)
        exact ⟨B', [b0], [(b0, t, 1 + r, u, [w2])], rfl, by show 1 ≤ 1; decide, gb, ⟨rfl, fun x hx => by
          rw [List.mem_singleton.mp hx]
          exact ⟨⟨fun z hz => by rw [List.mem_singleton.mp hz]; exact (gw w2 (by simp)).1, by simp, by show 1 ≤ 1; decide, by show 1 ≤ 3; decide⟩, by show 1 ≤ 1 + r; omega, by show 1 + r ≤ 3; omega⟩⟩, M5.put (m1 := []) _⟩
      · exact ⟨B, [], [], rfl, by decide, by simp, ⟨rfl, fun x hx => by cases hx⟩, by rw [show mR ++ STm [] = mR by simp [STm]]; exact M3⟩
    · rintro σ' H5 ⟨B', bs, TS, rfl, lbs, gbs, gS, M3⟩
      refine ⟨by show 1 ≤ sizeLine; decide, fun i ni => ?_⟩
      have Mi := M3.new ni (.tup [.str "go"])
      generalize upd H5 i (.tup [.str "go"]) = H6 at Mi ⊢
      refine ⟨fun σ' H' => ∃ (i : Addr) (is : List Str), σ' = [some (.ref p), some (.ref W), some (.ref n), some (.ref a), v4, some (.ref s'), some (.ref i)] ∧ WsOk 3 is ∧ Md H H' p ((i, HO.tup (is.map V.str)) :: (s', HO.dK (STk TS)) :: (n, HO.dK (nmL La Ls W Li As B')) :: (B', HO.lst (bs.map V.str)) :: (mR ++ STm TS)), ?_, ?_⟩
      · refine ⟨_, rfl, ?_⟩
        dsimp only [tCons, tC, tNil, List.append_nil]
        refine draw_k (m := 3) Mi.a.p (by decide) (by decide) fun d H7 hd A7 => ?_
        replace Mi := Mi.call A7
        refine ⟨rfl, _, rfl, ite2 (fun hb => ?_) fun hb => ?_⟩
        · refine ⟨_, rfl, _, rfl, ?_⟩
          dsimp only [tCons, tC, tNil, List.append_nil]
          refine ⟨_, rfl, ?_⟩
          dsimp only [tCons, tC, tNil, List.append_nil]
          refine draw_k (m := 2) Mi.a.p (by decide) (by decide) fun d2 H8 hd2 A8 => ?_
          replace Mi := Mi.call A8
          refine ⟨_, _, rfl, rfl, ?_⟩
          refine ⟨_, rfl, W, _, rfl, SqL.of (Mi.nth 8 (by rw [hR]; rfl)), fun q nq => ?_⟩
          have ecut : ∃ ls1 : List Str, cutV (List.map V.str [w0, w1, w2]) (some 1) (some (2 + (d2 : Int))) = ls1.map V.str ∧ WsOk 3 ls1 := by
            have g : ∀ z ∈ [w0, w1, w2], isWord z = true := fun z hz => (gw z hz).1
            have d12 : w1 ≠ w2 := fun e => by subst e; simp at dw
            match d2, hd2 with
            | 0, _ => exact ⟨[w1], rfl, fun z hz => g z (by simp at hz ⊢; simp [hz]), by simp, by show 1 ≤ 1; decide, by show 1 ≤ 3; decide⟩
            | 1, _ => exact ⟨[w1, w2], rfl, fun z hz => g z (by simp at hz ⊢; rcases hz with h | h <;> simp [h]), by simp [d12], by show 1 ≤ 2; decide, by show 2 ≤ 3; decide⟩
          obtain ⟨ls1, e1, ok1⟩ := ecut
          rw [e1]
          replace Mi := Mi.new nq (.lst (ls1.map V.str))
          generalize upd H8 q (.lst (ls1.map V.str)) = H9 at Mi ⊢
          refine ⟨q, _, rfl, .inl ⟨SqL.of (Mi.nth 0 rfl), fun i2 ni2 => ?_⟩⟩
          replace Mi := Mi.new ni2 (.tup (ls1.map V.str))
          exact ⟨i2, ls1, rfl, ok1, Mi.sub (List.Sublist.cons₂ _ (List.Sublist.cons _ (List.sublist_cons_self _ _)))⟩
        · exact ⟨i, ["go"], rfl, ⟨by decide +kernel, by simp, by decide, by decide⟩, Mi⟩
      · rintro σ' H7 ⟨i, is, rfl, oki, M⟩
        intro sd nsd
        have M1 := M.new nsd (.dK [])
        generalize upd H7 sd (.dK []) = H8 at M1 ⊢
        refine ⟨_, rfl, _, rfl, _, rfl, _, rfl, by show 0 ≤ sizeLine; decide, fun R nR => ?_⟩
        replace M1 := M1.new nR (.lst [])
        generalize upd H8 R (.lst []) = H9 at M1 ⊢
        refine ⟨M1.nth 1 rfl, spK n a s' i R, rfl, by show 5 ≤ 15; decide, ?_⟩
        rw [show mergeK [] (spK n a s' i R) = spK n a s' i R from rfl]
        replace M1 := M1.put (m1 := [(R, _)]) (.dK (spK n a s' i R))
        generalize upd H9 sd (.dK (spK n a s' i R)) = H10 at M1 ⊢
        rw [hR] at M1
        have ea := M1.nth (x := (a, HO.dK (ATk TA))) 11 rfl
        refine k H10 sd n a s' i R ⟨ATk TA, STk TS, as, bs, li, is, la, ls, [w0, w1, w2], 2⟩ TA TS M1.a (M1.fr 1 rfl) (M1.fr 4 rfl) (M1.fr (x := (a, HO.dK (ATk TA))) 11 rfl) (M1.fr 3 rfl) ⟨M1.ne 1 4 rfl rfl (by decide), M1.ne (y := (a, HO.dK (ATk TA))) 1 11 rfl rfl (by decide), M1.ne 1 3 rfl rfl (by decide), M1.ne (y := (a, HO.dK (ATk TA))) 4 11 rfl rfl (by decide), M1.ne 4 3 rfl rfl (by decide), M1.ne (x := (a, HO.dK (ATk TA))) 11 3 rfl rfl (by decide)⟩ ⟨M1.nth 1 rfl, ⟨La, Ls, W, Li, As, B', M1.nth 4 rfl, M1.nth (x := (La, HO.lst (la.map V.str))) 9 rfl, M1.nth (x := (Ls, HO.lst (ls.map V.str))) 8 rfl, M1.nth (x := (W, HO.lst ([w0, w1, w2].map V.str))) 10 rfl, M1.nth (x := (Li, HO.lst (li.map V.str))) 7 rfl, M1.nth (x := (As, HO.lst (as.map V.str))) 6 rfl, M1.nth (x := (B', HO.lst (bs.map V.str))) 5 rfl⟩, ea, M1.nth 3 rfl, M1.nth 2 rfl, fun x hx => ?_⟩ (M1.nth 0 rfl) ⟨⟨⟨lla, dla, gla⟩, ⟨lls, gls⟩, ⟨lw, dw, gw⟩, ⟨lli, gli⟩, ⟨las, das, gas⟩, ⟨lbs, gbs⟩⟩, gA, gS, oki⟩
        refine (M1.mm x ?_).1
        rcases List.mem_append.mp hx with h | h
        · simp [h]
        · simp [h]
end
end OR

set_option Elab.async false
set_option maxRecDepth 100000
set_option maxHeartbeats 8000000
set_option linter.all false
namespace OR
open PySem PySem.Spec PyProof.Rows L2 TS2
def spRowsN (K : PySem.W.Frag) (d m : Nat) : Sp := fun vs H Q _ => ∃ (p n : Addr) (kt : Kit), vs = [.ref p, .ref n] ∧ PoolAt H p ∧ Nm H n kt ∧ n ≠ p ∧ kt.Nm ∧
  ∀ (H' : Hp) (L : Addr) (rows : List (Row (d + 1))), Adv p H H' → (∀ il, Rws K H H' kt (d + 1) m il L rows) → Q (.ref L) H'
def spPlain (K : PySem.W.Frag) (d : Nat) : Sp := fun vs H Q _ => ∃ (p n : Addr) (kt : Kit), vs = [.ref p, .ref n] ∧ PoolAt H p ∧ Nm H n kt ∧ n ≠ p ∧ kt.Nm ∧
  ∀ (H' : Hp) (t : Addr) (r : Row (d + 1)), Adv p H H' → RowAt K (tl H') (d + 1) r (.ref t) → (∀ il, Good kt (d + 1) il r) → rsz (d + 1) r = 1 → Q (.ref t) H'
/-- a row of words that stands everywhere -/
structure Leaf (kt : Kit) (w : Str) (ps : List Str) : Prop where
  f : (w, fsOf w) ∈ ftab
  e : w ≠ "edit"
  l : w ≠ "leave"
  p : ∀ R, All2 (fun f z => PG kt f (.word z : Pt R)) (fsOf w) ps
theorem Leaf.good {kt : Kit} {w : Str} {ps : List Str} (h : Leaf kt w ps) {d : Nat} {il : Bool} : Good kt (d + 1) il (w, ps.map Pt.word) ∧ rsz (d + 1) (w, ps.map Pt.word) = 1 := leaf_words rfl h.f h.e (fun z => absurd z h.l) (h.p _)
theorem lsz_ones {d : Nat} : ∀ {rows : List (Row d)}, (∀ r ∈ rows, rsz d r = 1) → lsz d rows = rows.length
  | [], _ => rfl
  | r :: rows, h => by
    rw [lsz_cons, lsz_ones fun x hx => h x (List.mem_cons_of_mem _ hx), h r List.mem_cons_self, List.length_cons]
    omega
theorem mem5 {α : Type} {x a b c d e : α} (h : x ∈ [a, b, c, d, e]) : x = a ∨ x = b ∨ x = c ∨ x = d ∨ x = e := by simpa using h
theorem three {l : List Str} (h : l.length = 3) : ∃ a b c, l = [a, b, c] := by
  match l, h with
  | [x, y, z], _ => exact ⟨x, y, z, rfl⟩
section
variable {kt : Kit} (ok : kt.Nm) {a l s z : Str}
include ok
theorem leaf_ask (ha : a ∈ kt.asks) (hl : l ∈ kt.labels) : Leaf kt "ask" [a, l] := ⟨by decide +kernel, by decide +kernel, by decide +kernel, fun R => by
  rw [show fsOf "ask" = (["ask", "label"] : List Str) by decide +kernel]
  exact .cons (pgw (ok.a.2.2 _ ha).1 (.inl ⟨rfl, ha⟩)) (.one (pgw (ok.l.2.2 _ hl).1 (.inr (.inr (.inr (.inr (.inl ⟨rfl, hl⟩)))))))⟩
theorem leaf_timer (hl : l ∈ kt.labels) : Leaf kt "timer" [l] := ⟨by decide +kernel, by decide +kernel, by decide +kernel, fun R => by
  rw [show fsOf "timer" = (["label"] : List Str) by decide +kernel]
  exact .one (pgw (ok.l.2.2 _ hl).1 (.inr (.inr (.inr (.inr (.inl ⟨rfl, hl⟩))))))⟩
theorem leaf_drop (hl : l ∈ kt.labels) : Leaf kt "drop" [l] := ⟨by decide +kernel, by decide +kernel, by decide +kernel, fun R => by
  rw [show fsOf "drop" = (["label"] : List Str) by decide +kernel]
  exact .one (pgw (ok.l.2.2 _ hl).1 (.inr (.inr (.inr (.inr (.inl ⟨rfl, hl⟩))))))⟩
theorem leaf_await (hl : l ∈ kt.labels) (hs : s ∈ kt.slots) : Leaf kt "await" [l, s] := ⟨by decide +kernel, by decide +kernel, by decide +kernel, fun R => by
  rw [show fsOf "await" = (["label", "slot"] : List Str) by decide +kernel]
  exact .cons (pgw (ok.l.2.2 _ hl).1 (.inr (.inr (.inr (.inr (.inl ⟨rfl, hl⟩)))))) (.one (pgw (ok.s.2 _ hs).1 (.inr (.inr (.inl ⟨rfl, hs⟩)))))⟩
theorem leaf_take (hb : a ∈ kt.sigs) (hs : s ∈ kt.slots) : Leaf kt "take" [a, s] := ⟨by decide +kernel, by decide +kernel, by decide +kernel, fun R => by
  rw [show fsOf "take" = (["signal", "slot"] : List Str) by decide +kernel]
  exact .cons (pgw (ok.b.2 _ hb).1 (.inr (.inl ⟨rfl, hb⟩))) (.one (pgw (ok.s.2 _ hs).1 (.inr (.inr (.inl ⟨rfl, hs⟩)))))⟩
theorem leaf_put (hs : s ∈ kt.slots) (hw : z ∈ kt.words) : Leaf kt "put" [s, z] := ⟨by decide +kernel, by decide +kernel, by decide +kernel, fun R => by
  rw [show fsOf "put" = (["slot", "word"] : List Str) by decide +kernel]
  exact .cons (pgw (ok.s.2 _ hs).1 (.inr (.inr (.inl ⟨rfl, hs⟩)))) (.one (pgw (ok.w.2.2 _ hw).1 (.inr (.inr (.inr (.inr (.inr (.inr rfl))))))))⟩
theorem leaf_end (hs : s ∈ kt.slots) : Leaf kt "end" [s] := ⟨by decide +kernel, by decide +kernel, by decide +kernel, fun R => by
  rw [show fsOf "end" = (["source"] : List Str) by decide +kernel]
  exact .one (pgw (ok.s.2 _ hs).1 (.inr (.inr (.inr (.inl ⟨rfl, .inl hs⟩)))))⟩
omit ok in
theorem leaf_anew : Leaf kt "anew" ["in"] := ⟨by decide +kernel, by decide +kernel, by decide +kernel, fun R => by
  rw [show fsOf "anew" = (["source"] : List Str) by decide +kernel]
  exact .one (pgw (by decide +kernel) (.inr (.inr (.inr (.inl ⟨rfl, .inr rfl⟩)))))⟩
end
section
variable {P : Program} {w : World} {K : PySem.W.Frag} {mg : Str → Option Value} {base : Heap}
theorem ok_pair {d : Nat} {f : Addr} {fd : FuncData} (F : FnP K "_law_pair" "_law_pair" s__law_pair f fd) (T : Tx w K mg) (G__law_draw : Def P w K mg base CX0 1 "_law_draw" p__law_draw spDraw) (G__law_item : Def P w K mg base CX0 2 "_law_item" p__law_item (spItem K)) : FnOk P w K mg base CX0 3 f fd p__law_pair (spRowsN K d 2) := by
  refine F.ok sc__law_pair (fun vs H Q E h => ?_) (fun cdv A outer s H vs Q E hr h => ?_)
  · obtain ⟨p, n, kt, rfl, _⟩ := h
    rfl
  · obtain ⟨p, n, kt, rfl, hp, nm, np, ok, k⟩ := h
    have hu := hu_of hr
    refine ⟨_, PSs.nox (pss_cons (ps_set (i := 2) sc__law_pair.nd rfl (.inl rfl) (pe_cmpR op_eq (pe_fn G__law_draw (hr.mono (by omega)) (by rfl) pass0 (pa_cons (pv 0) (pa_cons pe_int pa_nil))) pe_int (nomark _)))
      (pss_cons (ps_set (i := 3) sc__law_pair.nd rfl (.inl rfl) (pe_fn G__law_item (hr.mono (by omega)) (by rfl) pass0 (pa_cons (pv 0) (pa_cons (pe_dget hu (pv 1) pe_str (fun _ _ => rfl)) pa_nil))))
      (pss_cons (ps_set (i := 4) sc__law_pair.nd rfl (.inl rfl) (pe_tup (pa_cons pe_str (pa_cons (pe_fn G__law_item (hr.mono (by omega)) (by rfl) pass0 (pa_cons (pv 0) (pa_cons (pe_dget hu (pv 1) pe_str (fun _ _ => rfl)) pa_nil))) (pa_cons (pv 3) pa_nil)))))
      (C8.pss_cut (ps_if (pt_val (pv 2)) (pss_one (ps_set (i := 4) sc__law_pair.nd rfl (.inl rfl) (pe_tup (pa_cons pe_str (pa_cons (pv 3) pa_nil))))) pss_nil)
      (pss_one (ps_ret (pe_lst (pa_cons (pv 4) (pa_cons (pe_tup (pa_cons pe_str (pa_cons (pv 3) (pa_cons (pe_fn G__law_item (hr.mono (by omega)) (by rfl) pass0 (pa_cons (pv 0) (pa_cons (pe_dget hu (pv 1) pe_str (fun _ _ => rfl)) pa_nil))) pa_nil)))) pa_nil))))))))), ?_⟩
    refine ⟨_, rfl, ?_⟩
    dsimp only [tCons, tC, tNil, List.append_nil]
    refine draw_k (m := 3) hp (by decide) (by decide) fun d0 H1 hd A1 => ?_
    refine ⟨rfl, ?_⟩
    generalize decide (V.int (d0 : Int) = V.int 0) = tm
    have nm1 := nm.adv A1 hp np
    obtain ⟨la, g1, h1⟩ := nm1.labels
    refine ⟨_, rfl, _, rfl, n, _, rfl, g1, p, la, kt.labels, rfl, A1.p, h1, by rw [ok.l.1]; decide, by rw [ok.l.1]; decide, fun lab hlab H2 A2 => ?_⟩
    have nm2 := nm1.adv A2 A1.p np
    obtain ⟨as, g2, h2⟩ := nm2.asks
    refine ⟨_, rfl, _, rfl, n, _, rfl, g2, p, as, kt.asks, rfl, A2.p, h2, by rw [ok.a.1]; decide, by rw [ok.a.1]; decide, fun ak hak H3 A3 => ?_⟩
    have nm3 := nm2.adv A3 A2.p np
    refine ⟨_, rfl, by show 3 ≤ sizeLine; decide, fun t nt => ?_⟩
    have S4 : Same H3 (upd H3 t (.tup [.str "ask", .str ak, .str lab])) := Same.new nt
    have ht : upd H3 t (.tup [.str "ask", .str ak, .str lab]) t = some (.tup (.str "ask" :: [ak, lab].map V.str)) := upd_same
    generalize upd H3 t (.tup [.str "ask", .str ak, .str lab]) = H4 at S4 ht ⊢
    have A4 := ((A1.trans A2).trans A3).same S4
    refine ⟨fun σ' H' => ∃ (st : Addr) (w : Str) (ps : List Str), σ' = [some (.ref p), some (.ref n), some (.bl tm), some (.str lab), some (.ref st)] ∧ Adv p H H' ∧ H' st = some (.tup (.str w :: ps.map V.str)) ∧ Leaf kt w ps, ?_, ?_⟩
    · refine ⟨_, rfl, ?_⟩
      refine ⟨tm, rfl, ?_⟩
      cases tm with
      | true =>
        refine iteT ?_
        refine ⟨_, rfl, by show 2 ≤ sizeLine; decide, fun t2 nt2 => ?_⟩
        exact ⟨t2, "timer", [lab], rfl, A4.same (Same.new nt2), upd_same, leaf_timer ok hlab⟩
      | false =>
        refine iteF ?_
        exact ⟨t, "ask", [ak, lab], rfl, A4, ht, leaf_ask ok hak hlab⟩
    · rintro σ' H5 ⟨st, w, ps, rfl, A5, hst, lf⟩
      have nm5 := nm.adv A5 hp np
      obtain ⟨sl, g5, h5⟩ := nm5.slots
      refine ⟨_, rfl, ?_⟩
      refine ⟨_, rfl, _, rfl, _, rfl, n, _, rfl, g5, p, sl, kt.slots, rfl, A5.p, h5, by rw [ok.s.1]; decide, by rw [ok.s.1]; decide, fun so hso H6 A6 => ?_⟩
      have hst6 := A6.at_ hst A5.p rfl
      refine ⟨by show 3 ≤ sizeLine; decide, fun u nu => ?_⟩
      have S7 : Same H6 (upd H6 u (.tup [.str "await", .str lab, .str so])) := Same.new nu
      have hu7 : upd H6 u (.tup [.str "await", .str lab, .str so]) u = some (.tup (.str "await" :: [lab, so].map V.str)) := upd_same
      generalize upd H6 u (.tup [.str "await", .str lab, .str so]) = H7 at S7 hu7 ⊢
      have A7 := (A5.trans A6).same S7
      refine ⟨by show 2 ≤ sizeLine; decide, fun L nL => ?_⟩
      have S8 : Same H7 (upd H7 L (.lst [.ref st, .ref u])) := Same.new nL
      refine k _ L [(w, ps.map Pt.word), ("await", [lab, so].map Pt.word)] (A7.same S8) fun il => ⟨A7.f _ nL, ⟨_, upd_same, .cons (row_wordsT (S8 _ _ (S7 _ _ hst6))) (.one (row_wordsT (S8 _ _ hu7)))⟩, fun x hx => ?_, ?_⟩
      · rcases List.mem_cons.mp hx with rfl | hx
        · exact lf.good.1
        · rw [List.mem_singleton.mp hx]; exact (leaf_await ok hlab hso).good.1
      · refine Nat.le_of_eq (lsz_ones fun x hx => ?_)
        rcases List.mem_cons.mp hx with rfl | hx
        · exact (lf.good (il := il)).2
        · rw [List.mem_singleton.mp hx]; exact ((leaf_await ok hlab hso).good (il := il)).2
theorem ok_race {d : Nat} {f : Addr} {fd : FuncData} (F : FnP K "_law_race" "_law_race" s__law_race f fd) (T : Tx w K mg) (G__law_item : Def P w K mg base CX0 2 "_law_item" p__law_item (spItem K)) : FnOk P w K mg base CX0 3 f fd p__law_race (spRowsN K d 5) := by
  refine F.ok sc__law_race (fun vs H Q E h => ?_) (fun cdv A outer s H vs Q E hr h => ?_)
  · obtain ⟨p, n, kt, rfl, _⟩ := h
    rfl
  · obtain ⟨p, n, kt, rfl, hp, nm, np, ok, k⟩ := h
    have hu := hu_of hr
    refine ⟨_, PSs.nox (pss_cons (ps_set (i := 2) sc__law_race.nd rfl (.inl rfl) (pe_ix ix_list (pe_dget hu (pv 1) pe_str (fun _ _ => rfl)) pe_int (fun _ _ => rfl)))
      (pss_cons (ps_set (i := 3) sc__law_race.nd rfl (.inl rfl) (pe_ix ix_list (pe_dget hu (pv 1) pe_str (fun _ _ => rfl)) pe_int (fun _ _ => rfl)))
      (pss_cons (ps_set (i := 4) sc__law_race.nd rfl (.inl rfl) (pe_lst (pa_cons (pe_tup (pa_cons pe_str (pa_cons (pe_fn G__law_item (hr.mono (by omega)) (by rfl) pass0 (pa_cons (pv 0) (pa_cons (pe_dget hu (pv 1) pe_str (fun _ _ => rfl)) pa_nil))) (pa_cons (pv 2) pa_nil)))) (pa_cons (pe_tup (pa_cons pe_str (pa_cons (pv 3) pa_nil))) pa_nil))))
      (pss_cons (ps_expr (pe_bm PySem.F.plainAttrs_list PySem.F.slot_list_append PySem.F.type_list_append mt_append (pv 4) (pa_cons (pe_tup (pa_cons pe_str (pa_cons (pe_tup (pa_cons (pv 3) (pa_cons (pv 2) pa_nil))) (pa_cons (pe_fn G__law_item (hr.mono (by omega)) (by rfl) pass0 (pa_cons (pv 0) (pa_cons (pe_dget hu (pv 1) pe_str (fun _ _ => rfl)) pa_nil))) pa_nil)))) pa_nil)))
      (pss_one (ps_ret (pe_op op_cat (pv 4) (pe_lst (pa_cons (pe_tup (pa_cons pe_str (pa_cons (pv 2) pa_nil))) (pa_cons (pe_tup (pa_cons pe_str (pa_cons (pv 3) pa_nil))) pa_nil)))))))))), ?_⟩
    obtain ⟨l0, l1, l2, el⟩ := three ok.l.1
    have m0 : l0 ∈ kt.labels := by rw [el]; simp
    have m1 : l1 ∈ kt.labels := by rw [el]; simp
    have ne01 : l1 ≠ l0 := fun e => by have := ok.l.2.1; rw [el, e] at this; simp at this
    obtain ⟨la, g1, h1⟩ := nm.labels
    obtain ⟨as, g2, h2⟩ := nm.asks
    rw [el] at h1
    refine ⟨_, rfl, n, _, rfl, g1, la, _, 0, .str l0, rfl, rfl, SqL.of h1, atI_nat rfl, ?_⟩
    refine ⟨_, rfl, n, _, rfl, g1, la, _, 1, .str l1, rfl, rfl, SqL.of h1, atI_nat rfl, ?_⟩
    refine ⟨_, rfl, _, rfl, n, _, rfl, g2, p, as, kt.asks, rfl, hp, h2, by rw [ok.a.1]; decide, by rw [ok.a.1]; decide, fun ak hak H1 A1 => ?_⟩
    have M := (Md.start hp).call A1
    refine ⟨_, rfl, by show 3 ≤ sizeLine; decide, fun t1 n1 => ?_⟩
    replace M := M.new n1 (.tup [.str "ask", .str ak, .str l0])
    generalize upd H1 t1 (.tup [.str "ask", .str ak, .str l0]) = H2 at M ⊢
    refine ⟨_, rfl, by show 2 ≤ sizeLine; decide, fun t2 n2 => ?_⟩
    replace M := M.new n2 (.tup [.str "timer", .str l1])
    generalize upd H2 t2 (.tup [.str "timer", .str l1]) = H3 at M ⊢
    refine ⟨by show 2 ≤ sizeLine; decide, fun L nL => ?_⟩
    replace M := M.new nL (.lst [.ref t1, .ref t2])
    generalize upd H3 L (.lst [.ref t1, .ref t2]) = H4 at M ⊢
    refine ⟨_, rfl, .inl ⟨rfl, _, SqL.of (M.nth 0 rfl)⟩, ?_⟩
    refine ⟨_, rfl, _, rfl, by show 2 ≤ sizeLine; decide, fun q nq => ?_⟩
    replace M := M.new nq (.tup [.str l1, .str l0])
    generalize upd H4 q (.tup [.str l1, .str l0]) = H5 at M ⊢
    obtain ⟨sl, g5, h5⟩ := (nm.adv M.a hp np).slots
    refine ⟨_, rfl, _, rfl, n, _, rfl, g5, p, sl, kt.slots, rfl, M.a.p, h5, by rw [ok.s.1]; decide, by rw [ok.s.1]; decide, fun so hso H6 A6 => ?_⟩
    replace M := M.call A6
    refine ⟨by show 3 ≤ sizeLine; decide, fun t3 n3 => ?_⟩
    replace M := M.new n3 (.tup [.str "first", .ref q, .str so])
    generalize upd H6 t3 (.tup [.str "first", .ref q, .str so]) = H7 at M ⊢
    refine ⟨L, _, _, rfl, rfl, M.nth 2 rfl, by show 2 < sizeLine; decide, ?_⟩
    replace M := M.put (m1 := [(t3, _), (q, _)]) (.lst [.ref t1, .ref t2, .ref t3])
    rw [show [V.ref t1, .ref t2] ++ [.ref t3] = [.ref t1, .ref t2, .ref t3] from rfl]
    generalize upd H7 L (.lst [.ref t1, .ref t2, .ref t3]) = H8 at M ⊢
    refine ⟨_, rfl, _, rfl, by show 2 ≤ sizeLine; decide, fun d1 nd1 => ?_⟩
    replace M := M.new nd1 (.tup [.str "drop", .str l0])
    generalize upd H8 d1 (.tup [.str "drop", .str l0]) = H9 at M ⊢
    refine ⟨_, rfl, by show 2 ≤ sizeLine; decide, fun d2 nd2 => ?_⟩
    replace M := M.new nd2 (.tup [.str "drop", .str l1])
    generalize upd H9 d2 (.tup [.str "drop", .str l1]) = H10 at M ⊢
    refine ⟨by show 2 ≤ sizeLine; decide, fun L2 nL2 => ?_⟩
    replace M := M.new nL2 (.lst [.ref d1, .ref d2])
    generalize upd H10 L2 (.lst [.ref d1, .ref d2]) = H11 at M ⊢
    refine ⟨L, L2, [.ref t1, .ref t2, .ref t3], [.ref d1, .ref d2], rfl, rfl, M.nth 5 rfl, M.nth 0 rfl, by show 3 + 2 ≤ sizeLine; decide, fun R nR => ?_⟩
    replace M := M.new nR (.lst [.ref t1, .ref t2, .ref t3, .ref d1, .ref d2])
    have e12 : upd H11 R (.lst ([V.ref t1, .ref t2, .ref t3] ++ [.ref d1, .ref d2])) = upd H11 R (.lst [.ref t1, .ref t2, .ref t3, .ref d1, .ref d2]) := rfl
    rw [e12]
    generalize upd H11 R (.lst [.ref t1, .ref t2, .ref t3, .ref d1, .ref d2]) = H12 at M ⊢
    have lo : ∀ {il : Bool}, LocalOk kt il "first" ([.words [l1, l0], .word so] : List (Pt (Row d))) := fun {il} => by
      refine ⟨by decide +kernel, by decide +kernel, ?_, fun z => absurd z (by decide +kernel)⟩
      rw [show fsOf "first" = (["labels", "slot"] : List Str) by decide +kernel]
      refine .cons ⟨.inl rfl, areW_of (m := 3) (by simp) (by show 2 ≤ 3; decide) (fun z hz => ?_) (by simp [ne01]), fun _ z hz => ?_⟩ (.one (pgw (ok.s.2 _ hso).1 (.inr (.inr (.inl ⟨rfl, hso⟩)))))
      · rcases List.mem_cons.mp hz with rfl | hz
        · exact (ok.l.2.2 _ m1).1
        · rw [List.mem_singleton.mp hz]; exact (ok.l.2.2 _ m0).1
      · rcases List.mem_cons.mp hz with rfl | hz
        · exact m1
        · rw [List.mem_singleton.mp hz]; exact m0
    have f1 := leaf_ask ok hak m0
    have f2 := leaf_timer ok m1
    have f3 := leaf_drop ok m0
    have f4 := leaf_drop ok m1
    refine k H12 R [("ask", [ak, l0].map Pt.word), ("timer", [l1].map Pt.word), ("first", [.words [l1, l0], .word so]), ("drop", [l0].map Pt.word), ("drop", [l1].map Pt.word)] M.a fun il => ⟨M.fr 0 rfl, ⟨_, M.nth 0 rfl, .cons (row_wordsT (M.nth 8 rfl)) (.cons (row_wordsT (M.nth 7 rfl)) (.cons ⟨t3, _, rfl, SqT.of (tl_tup (M.nth 4 rfl)), .cons ⟨q, rfl, SqT.of (tl_tup (M.nth 5 rfl))⟩ (.cons rfl .nil)⟩ (.cons (row_wordsT (M.nth 3 rfl)) (.one (row_wordsT (M.nth 2 rfl))))))⟩, fun x hx => ?_, ?_⟩
    · rcases mem5 hx with rfl | rfl | rfl | rfl | rfl
      · exact f1.good.1
      · exact f2.good.1
      · exact (good_leaf lo rfl).1
      · exact f3.good.1
      · exact f4.good.1
    · refine Nat.le_of_eq (lsz_ones fun x hx => ?_)
      rcases mem5 hx with rfl | rfl | rfl | rfl | rfl
      · exact (f1.good (il := il)).2
      · exact (f2.good (il := il)).2
      · exact (good_leaf (lo (il := il)) rfl).2
      · exact (f3.good (il := il)).2
      · exact (f4.good (il := il)).2
theorem ok_plain {d : Nat} {f : Addr} {fd : FuncData} (F : FnP K "_law_plain" "_law_plain" s__law_plain f fd) (T : Tx w K mg) (G__law_draw : Def P w K mg base CX0 1 "_law_draw" p__law_draw spDraw) (G__law_item : Def P w K mg base CX0 2 "_law_item" p__law_item (spItem K)) : FnOk P w K mg base CX0 3 f fd p__law_plain (spPlain K d) := by
  refine F.ok sc__law_plain (fun vs H Q E h => ?_) (fun cdv A outer s H vs Q E hr h => ?_)
  · obtain ⟨p, n, kt, rfl, _⟩ := h
    rfl
  · obtain ⟨p, n, kt, rfl, hp, nm, np, ok, k⟩ := h
    have hu := hu_of hr
    refine ⟨_, PSs.nox (pss_cons (ps_set (i := 2) sc__law_plain.nd rfl (.inl rfl) (pe_fn G__law_draw (hr.mono (by omega)) (by rfl) pass0 (pa_cons (pv 0) (pa_cons pe_int pa_nil))))
      (pss_cons (ps_set (i := 3) sc__law_plain.nd rfl (.inl rfl) (pe_fn G__law_item (hr.mono (by omega)) (by rfl) pass0 (pa_cons (pv 0) (pa_cons (pe_dget hu (pv 1) pe_str (fun _ _ => rfl)) pa_nil))))
      (pss_cons (ps_set (i := 4) sc__law_plain.nd rfl (.inl rfl) (pe_fn G__law_item (hr.mono (by omega)) (by rfl) pass0 (pa_cons (pv 0) (pa_cons (pe_dget hu (pv 1) pe_str (fun _ _ => rfl)) pa_nil))))
      (pss_cons (ps_set (i := 5) sc__law_plain.nd rfl (.inl rfl) (pe_dget hu (pv 1) pe_str (fun _ _ => rfl)))
      (pss_cons (ps_if (pt_cmpR op_eq (pv 2) pe_int (nomark _)) (pss_one (ps_ret (pe_tup (pa_cons pe_str (pa_cons (pe_fn G__law_item (hr.mono (by omega)) (by rfl) pass0 (pa_cons (pv 0) (pa_cons (pe_dget hu (pv 1) pe_str (fun _ _ => rfl)) pa_nil))) (pa_cons (pv 3) pa_nil)))))) pss_nil)
      (pss_cons (ps_if (pt_cmpR op_eq (pv 2) pe_int (nomark _)) (pss_one (ps_ret (pe_tup (pa_cons pe_str (pa_cons (pv 3) pa_nil))))) pss_nil)
      (pss_cons (ps_if (pt_cmpR op_eq (pv 2) pe_int (nomark _)) (pss_one (ps_ret (pe_tup (pa_cons pe_str (pa_cons (pv 3) (pa_cons (pv 4) pa_nil)))))) pss_nil)
      (pss_cons (ps_if (pt_cmpR op_eq (pv 2) pe_int (nomark _)) (pss_one (ps_ret (pe_tup (pa_cons pe_str (pa_cons (pv 3) pa_nil))))) pss_nil)
      (C8.pss_cut (ps_if (PW.pt (pw_and (pt_cmpR op_eq (pv 2) pe_int (nomark _)) (pw_and1 (pt_cmpR op_gt (pe_callB call_len_seq (by rfl) T.b_len PySem.boot_len (pa_cons (pe_dget hu (pv 1) pe_str (fun _ _ => rfl)) pa_nil)) pe_int (nomark _))))) (pss_one (ps_ret (pe_tup (pa_cons pe_str (pa_cons (pe_ix ix_list (pe_dget hu (pv 1) pe_str (fun _ _ => rfl)) pe_int (fun _ _ => rfl)) (pa_cons (pv 4) pa_nil)))))) pss_nil)
      (pss_cons (ps_if (pt_cmpR op_eq (pv 2) pe_int (nomark _)) (pss_one (ps_ret (pe_tup (pa_cons pe_str (pa_cons (pv 4) (pa_cons (pe_tup (pa_cons (pe_ix ix_list (pv 5) pe_int (fun _ _ => rfl)) (pa_cons (pe_ix ix_list (pv 5) (pe_op op_mul (pe_fn G__law_draw (hr.mono (by omega)) (by rfl) pass0 (pa_cons (pv 0) (pa_cons pe_int pa_nil))) pe_int) (fun _ _ => rfl)) pa_nil))) pa_nil)))))) pss_nil)
      (pss_cons (ps_if (pt_cmpR op_eq (pv 2) pe_int (nomark _)) (pss_one (ps_ret (pe_tup (pa_cons pe_str (pa_cons (pe_tup (pa_cons (pv 3) pa_nil)) (pa_cons (pv 4) pa_nil)))))) pss_nil)
      (pss_cons (ps_if (pt_cmpR op_eq (pv 2) pe_int (nomark _)) (pss_one (ps_ret (pe_tup (pa_cons pe_str (pa_cons (pv 4) pa_nil))))) pss_nil)
      (pss_cons (ps_if (pt_cmpR op_eq (pv 2) pe_int (nomark _)) (pss_one (ps_ret (pe_tup (pa_cons pe_str (pa_cons pe_str pa_nil))))) pss_nil)
      (pss_one (ps_ret (pe_tup (pa_cons pe_str (pa_cons (pv 4) (pa_cons (pe_fn G__law_item (hr.mono (by omega)) (by rfl) pass0 (pa_cons (pv 0) (pa_cons (pv 5) pa_nil))) pa_nil))))))))))))))))))), ?_⟩
    refine ⟨_, rfl, ?_⟩
    dsimp only [tCons, tC, tNil, List.append_nil]
    refine draw_k (m := 10) hp (by decide) (by decide) fun pick H1 hd A1 => ?_
    obtain ⟨la, g1, h1⟩ := (nm.adv A1 hp np).labels
    refine ⟨_, rfl, _, rfl, n, _, rfl, g1, p, la, kt.labels, rfl, A1.p, h1, by rw [ok.l.1]; decide, by rw [ok.l.1]; decide, fun lab hlab H2 A2 => ?_⟩
    replace A2 := A1.trans A2
    obtain ⟨sl, g2, h2⟩ := (nm.adv A2 hp np).slots
    refine ⟨_, rfl, _, rfl, n, _, rfl, g2, p, sl, kt.slots, rfl, A2.p, h2, by rw [ok.s.1]; decide, by rw [ok.s.1]; decide, fun so hso H3 A3 => ?_⟩
    replace A3 := A2.trans A3
    obtain ⟨wo, g3, h3⟩ := (nm.adv A3 hp np).words
    refine ⟨_, rfl, n, _, rfl, g3, ?_⟩
    have give : ∀ {H4 : Hp} {t : Addr} {w : Str} {ps : List Str}, Adv p H H4 → H4 t = none → Leaf kt w ps → Q (.ref t) (upd H4 t (.tup (.str w :: ps.map V.str))) := fun {H4 t w ps} A n lf => k _ t _ (A.same (Same.new n)) (row_wordsT upd_same) (fun il => lf.good.1) (lf.good (il := true)).2
    obtain ⟨as, g4, h4⟩ := (nm.adv A3 hp np).asks
    obtain ⟨bo, g5, h5⟩ := (nm.adv A3 hp np).boxes
    obtain ⟨w0, w1, w2, ew⟩ := three ok.w.1
    refine ⟨_, rfl, rfl, _, rfl, ?_⟩
    by_cases c0 : pick = 0
    · refine iteT' (decide_eq_true (by rw [c0]; rfl)) ?_
      refine ⟨_, rfl, _, rfl, n, _, rfl, g4, p, as, kt.asks, rfl, A3.p, h4, by rw [ok.a.1]; decide, by rw [ok.a.1]; decide, fun ak hak H4 A4 => ?_⟩
      refine ⟨_, rfl, by show 3 ≤ sizeLine; decide, fun t nt => ?_⟩
      exact give (w := "ask") (ps := [ak, lab]) (A3.trans A4) nt (leaf_ask ok hak hlab)
    refine iteF' (decide_eq_false (fun z => c0 (by have := V.int.inj z; omega))) ?_
    refine ⟨_, rfl, rfl, _, rfl, ?_⟩
    by_cases c1 : pick = 1
    · refine iteT' (decide_eq_true (by rw [c1]; rfl)) ?_
      refine ⟨_, rfl, by show 2 ≤ sizeLine; decide, fun t nt => ?_⟩
      exact give (w := "timer") (ps := [lab]) A3 nt (leaf_timer ok hlab)
    refine iteF' (decide_eq_false (fun z => c1 (by have := V.int.inj z; omega))) ?_
    refine ⟨_, rfl, rfl, _, rfl, ?_⟩
    by_cases c2 : pick = 2
    · refine iteT' (decide_eq_true (by rw [c2]; rfl)) ?_
      refine ⟨_, rfl, _, rfl, by show 3 ≤ sizeLine; decide, fun t nt => ?_⟩
      exact give (w := "await") (ps := [lab, so]) A3 nt (leaf_await ok hlab hso)
    refine iteF' (decide_eq_false (fun z => c2 (by have := V.int.inj z; omega))) ?_
    refine ⟨_, rfl, rfl, _, rfl, ?_⟩
    by_cases c3 : pick = 3
    · refine iteT' (decide_eq_true (by rw [c3]; rfl)) ?_
      refine ⟨_, rfl, by show 2 ≤ sizeLine; decide, fun t nt => ?_⟩
      exact give (w := "drop") (ps := [lab]) A3 nt (leaf_drop ok hlab)
    refine iteF' (decide_eq_false (fun z => c3 (by have := V.int.inj z; omega))) ?_
    refine ⟨fun σ' H' => σ' = [some (.ref p), some (.ref n), some (.int pick), some (.str lab), some (.str so), some (.ref wo)] ∧ H' = H3, ?_, ?_⟩
    · refine ⟨_, rfl, rfl, _, rfl, ?_⟩
      by_cases c4 : pick = 4
      · refine iteT' (decide_eq_true (by rw [c4]; rfl)) ?_
        refine ⟨_, rfl, n, _, rfl, g5, bo, _, rfl, .inl (SqL.of h5), _, _, rfl, rfl, _, rfl, ite2 (fun hb => ?_) fun hb => ⟨rfl, rfl⟩⟩
        obtain ⟨b0, eb⟩ : ∃ b0, kt.sigs = [b0] := by
          have l1 := ok.b.1
          have l2 := of_decide_eq_true hb
          rw [List.length_map] at l2
          match kt.sigs, l1, l2 with
          | [x], _, _ => exact ⟨x, rfl⟩
          | [], _, h => exact absurd h (by decide)
        have mb : b0 ∈ kt.sigs := by rw [eb]; simp
        rw [eb] at h5
        refine ⟨_, rfl, n, _, rfl, g5, bo, _, 0, .str b0, rfl, rfl, SqL.of h5, atI_nat rfl, ?_⟩
        refine ⟨_, rfl, by show 3 ≤ sizeLine; decide, fun t nt => ?_⟩
        exact give (w := "take") (ps := [b0, so]) A3 nt (leaf_take ok mb hso)
      · refine iteF' (decide_eq_false (fun z => c4 (by have := V.int.inj z; omega))) ?_
        exact ⟨rfl, rfl⟩
    rintro σ' H' ⟨rfl, rfl⟩
    refine ⟨_, rfl, rfl, _, rfl, ?_⟩
    by_cases c5 : pick = 5
    · refine iteT' (decide_eq_true (by rw [c5]; rfl)) ?_
      rw [ew] at h3
      refine ⟨_, rfl, _, rfl, wo, _, 1, .str w1, rfl, rfl, SqL.of h3, atI_nat rfl, ?_⟩
      refine ⟨_, rfl, _, rfl, ?_⟩
      dsimp only [tCons, tC, tNil, List.append_nil]
      refine draw_k (m := 2) A3.p (by decide) (by decide) fun dd H4 hdd A4 => ?_
      have h4' := A4.at_ h3 A3.p rfl
      refine ⟨_, _, rfl, rfl, .inr ⟨by decide, by decide⟩, ?_⟩
      have ex : ∃ wx, atI ([w0, w1, w2].map V.str) ((dd : Int) * 2) = some (V.str wx) ∧ wx ≠ w1 ∧ wx ∈ kt.words := by
        have nd := ok.w.2.1
        rw [ew] at nd
        match dd, hdd with
        | 0, _ => exact ⟨w0, rfl, fun e => by subst e; simp at nd, by rw [ew]; simp⟩
        | 1, _ => exact ⟨w2, rfl, fun e => by subst e; simp at nd, by rw [ew]; simp⟩
      obtain ⟨wx, e1, nx, mx⟩ := ex
      have mw1 : w1 ∈ kt.words := by rw [ew]; simp
      refine ⟨wo, _, _, V.str wx, rfl, rfl, SqL.of h4', e1, ?_⟩
      refine ⟨by show 2 ≤ sizeLine; decide, fun q nq => ?_⟩
      have S5 : Same H4 (upd H4 q (.tup [.str w1, .str wx])) := Same.new nq
      have hq : upd H4 q (.tup [.str w1, .str wx]) q = some (.tup ([w1, wx].map V.str)) := upd_same
      generalize upd H4 q (.tup [.str w1, .str wx]) = H5 at S5 hq ⊢
      have A5 := (A3.trans A4).same S5
      refine ⟨by show 3 ≤ sizeLine; decide, fun t nt => ?_⟩
      have S6 : Same H5 (upd H5 t (.tup [.str "note", .str so, .ref q])) := Same.new nt
      have lo : ∀ {il : Bool}, LocalOk kt il "note" ([.word so, .words [w1, wx]] : List (Pt (Row d))) := fun {il} => by
        refine ⟨by decide +kernel, by decide +kernel, ?_, fun z => absurd z (by decide +kernel)⟩
        rw [show fsOf "note" = (["slot", "words"] : List Str) by decide +kernel]
        refine .cons (pgw (ok.s.2 _ hso).1 (.inr (.inr (.inl ⟨rfl, hso⟩)))) (.one ⟨.inr rfl, areW_of (m := 3) (by simp) (by show 2 ≤ 3; decide) (fun z hz => ?_) (by simp [Ne.symm nx]), fun z => absurd z (by decide +kernel)⟩)
        rcases List.mem_cons.mp hz with rfl | hz
        · exact (ok.w.2.2 _ mw1).1
        · rw [List.mem_singleton.mp hz]; exact (ok.w.2.2 _ mx).1
      exact k _ t ("note", [.word so, .words [w1, wx]]) (A5.same S6) ⟨t, _, rfl, SqT.of (tl_tup upd_same), .cons rfl (.one ⟨q, rfl, SqT.of (tl_tup (S6 _ _ hq))⟩)⟩ (fun il => (good_leaf lo rfl).1) (good_leaf (lo (il := true)) rfl).2
    refine iteF' (decide_eq_false (fun z => c5 (by have := V.int.inj z; omega))) ?_
    refine ⟨_, rfl, rfl, _, rfl, ?_⟩
    by_cases c6 : pick = 6
    · refine iteT' (decide_eq_true (by rw [c6]; rfl)) ?_
      refine ⟨_, rfl, by show 1 ≤ sizeLine; decide, fun q nq => ?_⟩
      have S5 : Same H' (upd H' q (.tup [.str lab])) := Same.new nq
      have hq : upd H' q (.tup [.str lab]) q = some (.tup ([lab].map V.str)) := upd_same
      generalize upd H' q (.tup [.str lab]) = H5 at S5 hq ⊢
      have A5 := A3.same S5
      refine ⟨_, rfl, by show 3 ≤ sizeLine; decide, fun t nt => ?_⟩
      have S6 : Same H5 (upd H5 t (.tup [.str "first", .ref q, .str so])) := Same.new nt
      have lo : ∀ {il : Bool}, LocalOk kt il "first" ([.words [lab], .word so] : List (Pt (Row d))) := fun {il} => by
        refine ⟨by decide +kernel, by decide +kernel, ?_, fun z => absurd z (by decide +kernel)⟩
        rw [show fsOf "first" = (["labels", "slot"] : List Str) by decide +kernel]
        refine .cons ⟨.inl rfl, areW_of (m := 3) (by simp) (by show 1 ≤ 3; decide) (fun z hz => ?_) (by simp), fun _ z hz => ?_⟩ (.one (pgw (ok.s.2 _ hso).1 (.inr (.inr (.inl ⟨rfl, hso⟩)))))
        · rw [List.mem_singleton.mp hz]; exact (ok.l.2.2 _ hlab).1
        · rw [List.mem_singleton.mp hz]; exact hlab
      exact k _ t ("first", [.words [lab], .word so]) (A5.same S6) ⟨t, _, rfl, SqT.of (tl_tup upd_same), .cons ⟨q, rfl, SqT.of (tl_tup (S6 _ _ hq))⟩ (.one rfl)⟩ (fun il => (good_leaf lo rfl).1) (good_leaf (lo (il := true)) rfl).2
    refine iteF' (decide_eq_false (fun z => c6 (by have := V.int.inj z; omega))) ?_
    refine ⟨_, rfl, rfl, _, rfl, ?_⟩
    by_cases c7 : pick = 7
    · refine iteT' (decide_eq_true (by rw [c7]; rfl)) ?_
      refine ⟨_, rfl, by show 2 ≤ sizeLine; decide, fun t nt => ?_⟩
      exact give (w := "end") (ps := [so]) A3 nt (leaf_end ok hso)
    refine iteF' (decide_eq_false (fun z => c7 (by have := V.int.inj z; omega))) ?_
    refine ⟨_, rfl, rfl, _, rfl, ?_⟩
    by_cases c8 : pick = 8
    · refine iteT' (decide_eq_true (by rw [c8]; rfl)) ?_
      refine ⟨by show 2 ≤ sizeLine; decide, fun t nt => ?_⟩
      exact give (w := "anew") (ps := ["in"]) A3 nt leaf_anew
    refine iteF' (decide_eq_false (fun z => c8 (by have := V.int.inj z; omega))) ?_
    refine ⟨_, rfl, _, rfl, _, rfl, p, wo, kt.words, rfl, A3.p, h3, by rw [ok.w.1]; decide, by rw [ok.w.1]; decide, fun z hz H4 A4 => ?_⟩
    refine ⟨by show 3 ≤ sizeLine; decide, fun t nt => ?_⟩
    exact give (w := "put") (ps := [so, z]) (A3.trans A4) nt (leaf_put ok hso hz)
end
end OR

set_option Elab.async false
set_option maxRecDepth 100000
set_option maxHeartbeats 8000000
set_option linter.all false
namespace OR
open PySem PySem.Spec PyProof.Rows L2 TS2
def spBlock (K : PySem.W.Frag) (d : Nat) : Sp := fun vs H Q _ => ∃ (p n u : Addr) (kt : Kit) (e l : Nat) (il : Bool), vs = [.ref p, .ref n, .ref u, .int e, .bl il] ∧ e + (d + 1) = 6 ∧ 2 ≤ d ∧ W2 H p n u kt l ∧ kt.Nm ∧
  ∀ (H' : Hp) (L : Addr) (rows : List (Row (d + 1))) (l' : Nat), Adv2 p u l' H H' → l' ≤ l → Rws K H H' kt (d + 1) (5 * l - 5 * l') il L rows → rows.length ≤ 15 → Q (.ref L) H'
def spSome (K : PySem.W.Frag) (d : Nat) : Sp := fun vs H Q _ => ∃ (p n u : Addr) (kt : Kit) (e l : Nat) (il : Bool), vs = [.ref p, .ref n, .ref u, .int e, .bl il] ∧ e + (d + 1) = 6 ∧ 2 ≤ d ∧ W2 H p n u kt l ∧ kt.Nm ∧
  ∀ (H' : Hp) (L : Addr) (rows : List (Row (d + 1))) (l' : Nat), Adv2 p u l' H H' → l' ≤ l → Rws K H H' kt (d + 1) (5 * l - 5 * l' + 5) il L rows → rows.length ≤ 5 → Q (.ref L) H'
def fl1 (il : Bool) (pick : Nat) : Bool := (il && decide (pick ≠ 10)) || decide (pick = 9)
def fl2 (il : Bool) (pick : Nat) : Bool := il && decide (pick ≠ 10)
section
variable {σ : L2.St} {H : Hp} {Q : VK} {il : Bool} {pick : Nat}
theorem eq_int {m : Nat} : decide (V.int (pick : Int) = V.int (m : Nat)) = decide (pick = m) := by
  by_cases c : pick = m
  · subst c; simp
  · rw [decide_eq_false c]; exact decide_eq_false fun z => c (by have := V.int.inj z; omega)
theorem flag2_val (h4 : σ[4]? = some (some (.bl il))) (h5 : σ[5]? = some (some (.int pick))) (k : Q (.bl (fl2 il pick)) H) : tAndV (tVar 4) (tOp rNe (tVar 5) (tC (.int 10))) σ H Q := by
  refine ⟨_, h4, il, rfl, ?_⟩
  cases il with
  | false => exact k
  | true =>
    refine iteT ?_
    refine ⟨_, h5, rfl, ?_⟩
    rw [show decide (V.int (pick : Int) = V.int 10) = decide (pick = 10) from eq_int (m := 10)]
    have : fl2 true pick = !decide (pick = 10) := by unfold fl2; simp
    rw [← this]
    exact k
theorem flag1_val (h4 : σ[4]? = some (some (.bl il))) (h5 : σ[5]? = some (some (.int pick))) (k : Q (.bl (fl1 il pick)) H) : tOrV (tAndV (tVar 4) (tOp rNe (tVar 5) (tC (.int 10)))) (tOp rEq (tVar 5) (tC (.int 9))) σ H Q := by
  refine flag2_val h4 h5 ?_
  refine ⟨fl2 il pick, rfl, ?_⟩
  cases e : fl2 il pick with
  | true =>
    refine iteT ?_
    have : fl1 il pick = true := by unfold fl1; unfold fl2 at e; rw [e]; rfl
    rw [this] at k
    exact k
  | false =>
    refine iteF ?_
    refine ⟨_, h5, rfl, ?_⟩
    rw [show decide (V.int (pick : Int) = V.int 9) = decide (pick = 9) from eq_int (m := 9)]
    have : fl1 il pick = decide (pick = 9) := by unfold fl1; unfold fl2 at e; rw [e]; rfl
    rw [← this]
    exact k
end
theorem Rws.lst {K : PySem.W.Frag} {H H5 H6 : Hp} {kt : Kit} {d m : Nat} {il : Bool} {L : Addr} {rows : List (Row d)} (r : Rws K H H5 kt d m il L rows) (s : Same (tl H5) (tl H6)) : LstAt (tl H6) (RowAt K (tl H6) d) rows (.ref L) := by
  obtain ⟨xs, h, a⟩ := r.at_
  exact ⟨L, xs, rfl, s _ _ (tl_lst h), a.imp fun _ _ _ q => RowAt.mono s q⟩
theorem words_at {K : PySem.W.Frag} {H5 : Hp} {R : Type} {RA : R → V → Prop} {zs : List Str} : All2 (PtAt K H5 RA) (zs.map Pt.word) (zs.map V.str) := by
  induction zs with
  | nil => exact .nil
  | cons z zs ih => exact .cons rfl ih
/-- a row with lists, alone in a list -/
theorem close_row {K : PySem.W.Frag} {H H6 : Hp} {kt : Kit} {d m : Nat} {il : Bool} {t L : Addr} {w : Str} {zs fs gs : List Str} {vs : List V} {qs : List (Pt (Row (d + 1)))}
    (ht : H6 t = some (.tup (.str w :: (zs.map V.str ++ vs)))) (hq : All2 (PtAt K (tl H6) (RowAt K (tl H6) (d + 1))) qs vs) (ef : fsOf w = fs ++ gs) (hf : (w, fs ++ gs) ∈ ftab) (ne : w ≠ "edit") (nl : w ≠ "leave")
    (al : All2 (fun f z => PG kt f (.word z : Pt (Row (d + 1)))) fs zs) (ag : All2 (PG kt) gs qs) (gd : ∀ l ∈ kids qs, ∀ r ∈ l, Good kt (d + 1) (innerLoop w il) r) (sz : ((kids qs).map (lsz (d + 1))).sum + 1 ≤ m) (n6 : H6 L = none) (n : H L = none) :
    Rws K H (upd H6 L (.lst [.ref t])) kt (d + 2) m il L [(w, zs.map Pt.word ++ qs)] := by
  have S : Same H6 (upd H6 L (.lst [.ref t])) := Same.new n6
  refine ⟨n, ⟨_, upd_same, .one ?_⟩, fun x hx => ?_, ?_⟩
  · exact RowAt.mono (tl_mono S) ⟨t, _, rfl, SqT.of (tl_tup ht), words_at.app hq⟩
  · rw [List.mem_singleton.mp hx]
    refine ⟨⟨by rw [ef]; exact hf, ne, by rw [ef]; exact wl_app al ag, fun z => absurd z nl⟩, fun _ => by omega, fun l hl => ?_⟩
    rw [show kids (w, zs.map Pt.word ++ qs).2 = kids qs from kids_wa] at hl
    exact gd l hl
  · have e : lsz (d + 2) [(w, zs.map Pt.word ++ qs)] = 1 + ((kids qs).map (lsz (d + 1))).sum := by
      refine (lsz_one (d := d + 2) (w, zs.map Pt.word ++ qs)).trans ?_
      show 1 + ((kids (zs.map Pt.word ++ qs)).map fun l => (l.map (rsz (d + 1))).sum).sum = _
      rw [kids_wa]
      rfl
    rw [e]
    omega
theorem Adv2.put {p u : Addr} {l1 : Nat} {H H1 : Hp} (a : Adv2 p u l1 H H1) (n : u ≠ p) (l2 : Nat) : Adv2 p u l2 H (upd H1 u (.dK (fuK l2))) := by
  refine ⟨fun b o e c => ?_, ?_, upd_same, fun b e => ?_⟩
  · rw [upd_ne (fun z => c (.inr z))]
    exact a.k b o e c
  · obtain ⟨x, y, z, h⟩ := a.p
    exact ⟨x, y, z, by rw [upd_ne n.symm]; exact h⟩
  · by_cases c : b = u
    · rw [c, upd_same] at e; cases e
    · rw [upd_ne c] at e; exact a.f b e
theorem Rws.next {K : PySem.W.Frag} {H H1 H2 : Hp} {kt : Kit} {d m : Nat} {il : Bool} {L : Addr} {rows : List (Row d)} (r : Rws K H H1 kt d m il L rows) {C : Addr → Prop} (k : Kp C H1 H2) (no : ∀ b o, C b → H1 b = some o → isTL o = false) : Rws K H H2 kt d m il L rows := by
  obtain ⟨xs, h, a⟩ := r.at_
  exact ⟨r.n, ⟨xs, k _ _ h (fun c => by have := no _ _ c h; cases this), a.imp fun _ _ _ q => RowAt.mono (tl_kp k no) q⟩, r.good, r.sz⟩
theorem Rws.adv {K : PySem.W.Frag} {H H1 H2 : Hp} {kt : Kit} {d m l l2 : Nat} {p u : Addr} {il : Bool} {L : Addr} {rows : List (Row d)} (r : Rws K H H1 kt d m il L rows) (a : Adv2 p u l2 H1 H2) (hp : PoolAt H1 p) (hu : H1 u = some (.dK (fuK l))) : Rws K H H2 kt d m il L rows := r.next a.k fun _ _ => two_no hp hu
theorem Rws.old {K : PySem.W.Frag} {H0 H H1 : Hp} {kt : Kit} {d m : Nat} {il : Bool} {L : Addr} {rows : List (Row d)} (r : Rws K H H1 kt d m il L rows) (f : H0 L = none) : Rws K H0 H1 kt d m il L rows := ⟨f, r.at_, r.good, r.sz⟩
section
variable {P : Program} {w : World} {K : PySem.W.Frag} {mg : Str → Option Value} {base : Heap}
theorem ok_block {k0 d : Nat} {f : Addr} {fd : FuncData} (F : FnP K "_law_block" "_law_block" s__law_block f fd) (T : Tx w K mg) (h1 : 1 ≤ k0) (G__law_draw : Def P w K mg base CX0 1 "_law_draw" p__law_draw spDraw) (G__law_some : Def P w K mg base CX0 k0 "_law_some" p__law_some (spSome K d)) : FnOk P w K mg base CX0 (k0 + 1) f fd p__law_block (spBlock K d) := by
  refine F.ok sc__law_block (fun vs H Q E h => ?_) (fun cdv A outer s H vs Q E hr h => ?_)
  · obtain ⟨p, n, u, kt, e, l, il, rfl, _⟩ := h
    rfl
  · obtain ⟨p, n, u, kt, e, l, il, rfl, he, hd, W, ok, k⟩ := h
    have hu := hu_of hr
    refine ⟨_, PSs.nox (pss_cons (ps_set (i := 5) sc__law_block.nd rfl (.inl rfl) (pe_lst pa_nil))
      (pss_cons (ps_for PassesOwn.never rfl (pi_range1 (by rfl) T.b_range (pa_cons (pe_op op_add pe_int (pe_fn G__law_draw (hr.mono (by omega)) (by rfl) pass0 (pa_cons (pv 0) (pa_cons pe_int pa_nil)))) pa_nil)) (pg_name (i := 6) sc__law_block.nd rfl (.inl rfl)) (pss_one (ps_if (pt_cmpR op_gt (pe_dget hu (pv 2) pe_str (fun _ _ => rfl)) pe_int (nomark _)) (pss_cons (ps_dput hu (pv 2) pe_str (pe_op op_sub (pe_dget hu (pv 2) pe_str (fun _ _ => rfl)) pe_int) rfl)
      (pss_one (ps_set (i := 5) sc__law_block.nd rfl (.inl rfl) (pe_op op_cat (pv 5) (pe_fn G__law_some (hr.mono (by omega)) (by rfl) pass0 (pa_cons (pv 0) (pa_cons (pv 1) (pa_cons (pv 2) (pa_cons (pv 3) (pa_cons (pv 4) pa_nil)))))))))) pss_nil)))
      (pss_one (ps_ret (pv 5))))), ?_⟩
    refine ⟨by show 0 ≤ sizeLine; decide, fun L0 nL0 => ?_⟩
    have W1 := W.same (Same.new (o := .lst []) nL0)
    have A1 : Adv2 p u l H (upd H L0 (.lst [])) := (Adv2.refl W.pl W.fu).same (Same.new nL0)
    have h0 : upd H L0 (.lst []) L0 = some (.lst []) := upd_same
    generalize upd H L0 (.lst []) = H1 at W1 A1 h0 ⊢
    refine ⟨_, rfl, ?_⟩
    dsimp only [tCons, tC, tNil, List.append_nil]
    refine draw_k (m := 3) W1.pl (by decide) (by decide) fun st H2 hst A2 => ?_
    have A3 := A1.adv A2 W1.up
    have W3 := W1.adv A2
    have h3 := A2.at_ h0 W1.pl rfl
    refine ⟨_, _, rfl, rfl, (1 + (st : Int)), rfl, by omega, by omega, ?_⟩
    refine for_range (D := { nx := tRet (tVar 5) { nx := fun x H' => Q V.non H', rt := Q }, rt := Q }) (lo := 0) (n := (1 + (st : Int)).toNat) (fun i σ H' => ∃ (L : Addr) (rows : List (Row (d + 1))) (l' : Nat) (v6 : Option V), σ = [some (.ref p), some (.ref n), some (.ref u), some (.int e), some (.bl il), some (.ref L), v6] ∧ Adv2 p u l' H H' ∧ l' ≤ l ∧ Rws K H H' kt (d + 1) (5 * l - 5 * l') il L rows ∧ rows.length ≤ 5 * i)
      ⟨L0, [], l, none, rfl, A3, Nat.le_refl _, ⟨nL0, ⟨[], h3, .nil⟩, (fun x hx => by cases hx), Nat.zero_le _⟩, Nat.zero_le _⟩ (fun i σ H' hi y => ?_) (fun σ H' y => ?_)
    · obtain ⟨L, rows, l', v6, rfl, A, hl, R, len⟩ := y
      have W' := W.adv2 A
      refine ⟨_, rfl, u, _, rfl, fu_left A.u, _, _, rfl, rfl, _, rfl, ite2 (fun hb => ?_) fun hb => ⟨L, rows, l', _, rfl, A, hl, R, by omega⟩⟩
      have lp : 0 < l' := by have := of_decide_eq_true hb; omega
      have eput : DPut H' u (.str "left") (.int ((l' : Int) - 1)) (upd H' u (.dK (fuK (l' - 1)))) := by
        have h := fu_put A.u (l' - 1)
        rw [show ((l' - 1 : Nat) : Int) = (l' : Int) - 1 by omega] at h
        exact h
      refine ⟨_, rfl, u, _, rfl, fu_left A.u, _, _, rfl, rfl, _, rfl, u, _, rfl, eput, ?_⟩
      have A4 : Adv2 p u (l' - 1) H' (upd H' u (.dK (fuK (l' - 1)))) := (Adv2.refl A.p A.u).put W'.up _
      clear eput
      generalize upd H' u (.dK (fuK (l' - 1))) = H4 at A4 ⊢
      have W4 := W'.adv2 A4
      have R4 := R.adv A4 A.p A.u
      obtain ⟨xs, hx, rx⟩ := R4.at_
      refine ⟨_, rfl, _, rfl, _, rfl, _, rfl, _, rfl, _, rfl, p, n, u, kt, e, l' - 1, il, rfl, he, hd, W4, ok, fun H5 L2 rows2 l2 A5 hl2 R2 len2 => ?_⟩
      have W5 := W4.adv2 A5
      have R5 := R4.adv A5 A4.p A4.u
      obtain ⟨xs, hx, rx⟩ := R5.at_
      obtain ⟨ys, hy, ry⟩ := R2.at_
      have lx := rx.len
      have ly := ry.len
      refine ⟨L, L2, xs, ys, rfl, rfl, hx, hy, by rw [sizeLine_eq]; omega, fun q nq => ?_⟩
      have S6 : Same H5 (upd H5 q (.lst (xs ++ ys))) := Same.new nq
      have A6 := ((A.trans A4).trans A5).same S6
      refine ⟨q, rows ++ rows2, l2, _, rfl, A6, by omega, ⟨((A.trans A4).trans A5).f _ nq, ⟨_, upd_same, (rx.app ry).imp fun _ _ _ z => RowAt.mono (tl_mono S6) z⟩, fun x hx => ?_, ?_⟩, by rw [List.length_append]; omega⟩
      · rcases List.mem_append.mp hx with h | h
        · exact R.good x h
        · exact R2.good x h
      · rw [lsz_app]
        have s1 := R.sz
        have s2 := R2.sz
        omega
    · obtain ⟨L, rows, l', v6, rfl, A, hl, R, len⟩ := y
      exact ⟨_, rfl, k H' L rows l' A hl R (by omega)⟩
end
end OR

set_option Elab.async false
set_option maxRecDepth 100000
set_option maxHeartbeats 8000000
set_option linter.all false
namespace OR
open PySem PySem.Spec PyProof.Rows L2 TS2
theorem mk_row {K : PySem.W.Frag} {H6 : Hp} {kt : Kit} {d : Nat} {il : Bool} {t : Addr} {w : Str} {zs fs gs : List Str} {vs : List V} {qs : List (Pt (Row (d + 1)))}
    (ht : H6 t = some (.tup (.str w :: (zs.map V.str ++ vs)))) (hq : All2 (PtAt K (tl H6) (RowAt K (tl H6) (d + 1))) qs vs) (ef : fsOf w = fs ++ gs) (hf : (w, fs ++ gs) ∈ ftab) (ne : w ≠ "edit") (nl : w ≠ "leave")
    (al : All2 (fun f z => PG kt f (.word z : Pt (Row (d + 1)))) fs zs) (ag : All2 (PG kt) gs qs) (gd : ∀ l ∈ kids qs, ∀ r ∈ l, Good kt (d + 1) (innerLoop w il) r) :
    RowAt K (tl H6) (d + 2) (w, zs.map Pt.word ++ qs) (.ref t) ∧ Good kt (d + 2) il (w, zs.map Pt.word ++ qs) ∧ rsz (d + 2) (w, zs.map Pt.word ++ qs) = 1 + ((kids qs).map (lsz (d + 1))).sum := by
  refine ⟨⟨t, _, rfl, SqT.of (tl_tup ht), words_at.app hq⟩, ⟨⟨by rw [ef]; exact hf, ne, by rw [ef]; exact wl_app al ag, fun z => absurd z nl⟩, fun _ => by omega, fun l hl => ?_⟩, ?_⟩
  · rw [show kids (w, zs.map Pt.word ++ qs).2 = kids qs from kids_wa] at hl
    exact gd l hl
  · show 1 + ((kids (zs.map Pt.word ++ qs)).map fun l => (l.map (rsz (d + 1))).sum).sum = _
    rw [kids_wa]
    rfl
theorem Rws.mono {K : PySem.W.Frag} {H H1 : Hp} {kt : Kit} {d m m' : Nat} {il : Bool} {L : Addr} {rows : List (Row d)} (r : Rws K H H1 kt d m il L rows) (h : m ≤ m') : Rws K H H1 kt d m' il L rows := ⟨r.n, r.at_, r.good, Nat.le_trans r.sz h⟩
theorem W2.w1 {H : Hp} {p n u : Addr} {kt : Kit} {l : Nat} (w : W2 H p n u kt l) : PoolAt H p ∧ Nm H n kt ∧ n ≠ p := ⟨w.pl, w.nm, w.np⟩
section
variable {P : Program} {w : World} {K : PySem.W.Frag} {mg : Str → Option Value} {base : Heap}
theorem ok_some {k0 d : Nat} {f : Addr} {fd : FuncData} (F : FnP K "_law_some" "_law_some" s__law_some f fd) (T : Tx w K mg) (h3 : 3 ≤ k0) (G__law_draw : Def P w K mg base CX0 1 "_law_draw" p__law_draw spDraw) (G__law_item : Def P w K mg base CX0 2 "_law_item" p__law_item (spItem K)) (G__law_pair : Def P w K mg base CX0 3 "_law_pair" p__law_pair (spRowsN K (d + 2) 2)) (G__law_pairI : Def P w K mg base CX0 3 "_law_pair" p__law_pair (spRowsN K d 2))
    (G__law_race : Def P w K mg base CX0 3 "_law_race" p__law_race (spRowsN K (d + 2) 5)) (G__law_plain : Def P w K mg base CX0 3 "_law_plain" p__law_plain (spPlain K (d + 2))) (G__law_block : Def P w K mg base CX0 k0 "_law_block" p__law_block (spBlock K (d + 1))) : FnOk P w K mg base CX0 (k0 + 1) f fd p__law_some (spSome K (d + 2)) := by
  refine F.ok sc__law_some (fun vs H Q E h => ?_) (fun cdv A outer s H vs Q E hr h => ?_)
  · obtain ⟨p, n, u, kt, e, l, il, rfl, _⟩ := h
    rfl
  · obtain ⟨p, n, u, kt, e, l, il, rfl, he, hd, W, ok, k⟩ := h
    have hu := hu_of hr
    refine ⟨_, PSs.nox (pss_cons (ps_set (i := 5) sc__law_some.nd rfl (.inl rfl) (pe_fn G__law_draw (hr.mono (by omega)) (by rfl) pass0 (pa_cons (pv 0) (pa_cons pe_int pa_nil))))
      (pss_cons (ps_set (i := 6) sc__law_some.nd rfl (.inl rfl) (pe_fn G__law_item (hr.mono (by omega)) (by rfl) pass0 (pa_cons (pv 0) (pa_cons (pe_dget hu (pv 1) pe_str (fun _ _ => rfl)) pa_nil))))
      (pss_cons (ps_set (i := 7) sc__law_some.nd rfl (.inl rfl) (pe_fn G__law_item (hr.mono (by omega)) (by rfl) pass0 (pa_cons (pv 0) (pa_cons (pe_op op_cat (pe_dget hu (pv 1) pe_str (fun _ _ => rfl)) (pe_lst (pa_cons pe_str (pa_cons pe_str pa_nil)))) pa_nil))))
      (pss_cons (ps_if (pt_cmpR op_lt (pv 5) pe_int (nomark _)) (pss_one (ps_ret (pe_fn G__law_pair (hr.mono (by omega)) (by rfl) pass0 (pa_cons (pv 0) (pa_cons (pv 1) pa_nil))))) pss_nil)
      (pss_cons (ps_if (pt_cmpR op_eq (pv 5) pe_int (nomark _)) (pss_one (ps_ret (pe_fn G__law_race (hr.mono (by omega)) (by rfl) pass0 (pa_cons (pv 0) (pa_cons (pv 1) pa_nil))))) pss_nil)
      (pss_cons (ps_if (PW.pt (pw_or (pt_cmpR op_lt (pv 5) pe_int (nomark _)) (pw_or1 (pt_cmpR op_gt (pv 3) (pe_dget hu (pv 2) pe_str (fun _ _ => rfl)) (nomark _))))) (pss_one (ps_ret (pe_lst (pa_cons (pe_fn G__law_plain (hr.mono (by omega)) (by rfl) pass0 (pa_cons (pv 0) (pa_cons (pv 1) pa_nil))) pa_nil)))) pss_nil)
      (pss_cons (ps_set (i := 8) sc__law_some.nd rfl (.inl rfl) (pe_fn G__law_block (hr.mono (by omega)) (by rfl) pass0 (pa_cons (pv 0) (pa_cons (pv 1) (pa_cons (pv 2) (pa_cons (pe_op op_add (pv 3) pe_int) (pa_cons (pe_or (pe_and (pv 4) (pe_one (pe_cmpR op_ne (pv 5) pe_int (nomark _)))) (pe_one (pe_cmpR op_eq (pv 5) pe_int (nomark _)))) pa_nil)))))))
      (pss_cons (ps_if (pt_cmpR op_eq (pv 5) pe_int (nomark _)) (pss_one (ps_ret (pe_lst (pa_cons (pe_tup (pa_cons pe_str (pa_cons (pe_op op_cat (pv 8) (pe_lst (pa_cons (pe_tup (pa_cons pe_str (pa_cons (pv 6) (pa_cons (pv 7) (pa_cons (pe_lst (pa_cons (pe_tup (pa_cons pe_str pa_nil)) pa_nil)) (pa_cons (pe_fn G__law_pairI (hr.mono (by omega)) (by rfl) pass0 (pa_cons (pv 0) (pa_cons (pv 1) pa_nil))) pa_nil)))))) pa_nil))) pa_nil))) pa_nil)))) pss_nil)
      (pss_cons (ps_if (pt_cmpR op_eq (pv 5) pe_int (nomark _)) (pss_one (ps_ret (pe_lst (pa_cons (pe_tup (pa_cons pe_str (pa_cons (pe_fn G__law_item (hr.mono (by omega)) (by rfl) pass0 (pa_cons (pv 0) (pa_cons (pe_dget hu (pv 1) pe_str (fun _ _ => rfl)) pa_nil))) (pa_cons (pv 8) pa_nil)))) pa_nil)))) pss_nil)
      (pss_cons (ps_if (PW.pt (pw_and (pt_cmpR op_eq (pv 5) pe_int (nomark _)) (pw_and1 (pt_val (pv 4))))) (pss_one (ps_ret (pe_lst (pa_cons (pe_tup (pa_cons pe_str pa_nil)) pa_nil)))) pss_nil)
      (pss_cons (ps_if (pt_cmpR op_eq (pv 5) pe_int (nomark _)) (pss_one (ps_ret (pe_lst (pa_cons (pe_tup (pa_cons pe_str (pa_cons (pv 8) pa_nil))) pa_nil)))) pss_nil)
      (pss_cons (ps_set (i := 9) sc__law_some.nd rfl (.inl rfl) (pe_fn G__law_block (hr.mono (by omega)) (by rfl) pass0 (pa_cons (pv 0) (pa_cons (pv 1) (pa_cons (pv 2) (pa_cons (pe_op op_add (pv 3) pe_int) (pa_cons (pe_and (pv 4) (pe_one (pe_cmpR op_ne (pv 5) pe_int (nomark _)))) pa_nil)))))))
      (pss_cons (ps_if (pt_cmpR op_eq (pv 5) pe_int (nomark _)) (pss_one (ps_ret (pe_lst (pa_cons (pe_tup (pa_cons pe_str (pa_cons (pv 6) (pa_cons (pv 7) (pa_cons (pv 8) (pa_cons (pv 9) pa_nil)))))) pa_nil)))) pss_nil)
      (pss_cons (ps_if (pt_cmpR op_eq (pv 5) pe_int (nomark _)) (pss_one (ps_ret (pe_lst (pa_cons (pe_tup (pa_cons pe_str (pa_cons (pe_tup (pa_cons (pv 8) (pa_cons (pv 9) pa_nil))) pa_nil))) pa_nil)))) pss_nil)
      (pss_one (ps_ret (pe_lst (pa_cons (pe_tup (pa_cons pe_str (pa_cons (pe_fn G__law_item (hr.mono (by omega)) (by rfl) pass0 (pa_cons (pv 0) (pa_cons (pe_dget hu (pv 1) pe_str (fun _ _ => rfl)) pa_nil))) (pa_cons (pv 8) (pa_cons (pv 9) pa_nil))))) pa_nil)))))))))))))))))), ?_⟩
    have fin : ∀ {H6 : Hp} {t L : Addr} {row : Row (d + 3)} {l' : Nat}, Adv2 p u l' H H6 → l' ≤ l → RowAt K (tl H6) (d + 3) row (.ref t) → Good kt (d + 3) il row → rsz (d + 3) row ≤ 5 * l - 5 * l' + 5 → H6 L = none → Q (.ref L) (upd H6 L (.lst [.ref t])) := fun {H6 t L row l'} A hl ra gd sz n => by
      have S : Same H6 (upd H6 L (.lst [.ref t])) := Same.new n
      refine k _ L [row] l' (A.same S) hl ⟨A.f _ n, ⟨_, upd_same, .one (RowAt.mono (tl_mono S) ra)⟩, fun x hx => ?_, ?_⟩ (by show 1 ≤ 5; decide)
      · rw [List.mem_singleton.mp hx]; exact gd
      · rw [lsz_one]; exact sz
    refine ⟨_, rfl, ?_⟩
    dsimp only [tCons, tC, tNil, List.append_nil]
    refine draw_k (m := 14) W.pl (by decide) (by decide) fun pick H1 hpk A1 => ?_
    obtain ⟨sl, g1, h1⟩ := (W.adv A1).nm.slots
    refine ⟨_, rfl, _, rfl, n, _, rfl, g1, p, sl, kt.slots, rfl, A1.p, h1, by rw [ok.s.1]; decide, by rw [ok.s.1]; decide, fun so hso H2 A2 => ?_⟩
    replace A2 := A1.trans A2
    obtain ⟨wo, g2, h2⟩ := (W.adv A2).nm.words
    refine ⟨_, rfl, _, rfl, n, _, rfl, g2, by show 2 ≤ sizeLine; decide, fun q nq => ?_⟩
    have S3 : Same H2 (upd H2 q (.lst [.str "none", .str "rang"])) := Same.new nq
    have hq : upd H2 q (.lst [.str "none", .str "rang"]) q = some (.lst [.str "none", .str "rang"]) := upd_same
    generalize upd H2 q (.lst [.str "none", .str "rang"]) = H3 at S3 hq ⊢
    replace A2 := A2.same S3
    refine ⟨wo, q, _, _, rfl, rfl, S3 _ _ h2, hq, by rw [List.length_map, ok.w.1]; show 3 + 2 ≤ sizeLine; decide, fun q3 n3 => ?_⟩
    have S4 : Same H3 (upd H3 q3 (.lst (kt.words.map V.str ++ [.str "none", .str "rang"]))) := Same.new n3
    have hq3 : upd H3 q3 (.lst (kt.words.map V.str ++ [.str "none", .str "rang"])) q3 = some (.lst ((kt.words ++ (["none", "rang"] : List Str)).map V.str)) := by
      rw [upd_same, List.map_append]
      rfl
    generalize upd H3 q3 (.lst (kt.words.map V.str ++ [.str "none", .str "rang"])) = H4 at S4 hq3 ⊢
    replace A2 := A2.same S4
    refine ⟨p, q3, _, rfl, A2.p, hq3, by rw [List.length_append, ok.w.1]; decide, by rw [List.length_append, ok.w.1]; decide, fun wd hwd H5 A5 => ?_⟩
    have A := A2.trans A5
    clear A1 A2 A5 hq hq3 h1 h2 g1 g2 S3 S4 nq n3
    have wwd : isWord wd = true := by
      rcases List.mem_append.mp hwd with h | h
      · exact (ok.w.2.2 _ h).1
      · rcases List.mem_cons.mp h with rfl | h
        · decide +kernel
        · rw [List.mem_singleton.mp h]; decide +kernel
    have W5 := W.adv A
    refine ⟨_, rfl, _, _, rfl, rfl, _, rfl, ite2 (fun hb => ?_) fun c0 => ?_⟩
    · refine ⟨_, rfl, _, rfl, p, n, kt, rfl, W5.pl, W5.nm, W.np, ok, fun H6 L rows A6 R => ?_⟩
      have s2 := (R il).sz
      have s3 := lsz_len (d := d + 2 + 1) (by omega) rows
      exact k H6 L rows l ((A.trans A6).two W.up W.fu) (Nat.le_refl _) (((R il).old (A.f _ (R il).n)).mono (by omega)) (by omega)
    refine ⟨_, rfl, rfl, _, rfl, ?_⟩
    by_cases c4 : pick = 4
    · refine iteT' (decide_eq_true (by rw [c4]; rfl)) ?_
      refine ⟨_, rfl, _, rfl, p, n, kt, rfl, W5.pl, W5.nm, W.np, ok, fun H6 L rows A6 R => ?_⟩
      have s2 := (R il).sz
      have s3 := lsz_len (d := d + 2 + 1) (by omega) rows
      exact k H6 L rows l ((A.trans A6).two W.up W.fu) (Nat.le_refl _) (((R il).old (A.f _ (R il).n)).mono (by omega)) (by omega)
    refine iteF' (decide_eq_false (fun z => c4 (by have := V.int.inj z; omega))) ?_
    refine ⟨_, rfl, _, _, rfl, rfl, _, rfl, ite2 (fun hb => ?_) fun c8 => ?_⟩
    · refine ⟨_, rfl, _, rfl, p, n, kt, rfl, W5.pl, W5.nm, W.np, ok, fun H6 t r A6 ra gd sz => ?_⟩
      refine ⟨(by show 1 ≤ sizeLine; decide), fun L nL => ?_⟩
      exact fin ((A.trans A6).two W.up W.fu) (Nat.le_refl _) ra (gd il) (by have sz' : rsz (d + 3) r = 1 := sz; omega) nL
    refine ⟨_, rfl, _, rfl, u, _, rfl, fu_deep W5.fu, _, _, rfl, rfl, _, rfl, ite2 (fun hb => ?_) fun ce => ?_⟩
    · refine ⟨_, rfl, _, rfl, p, n, kt, rfl, W5.pl, W5.nm, W.np, ok, fun H6 t r A6 ra gd sz => ?_⟩
      refine ⟨(by show 1 ≤ sizeLine; decide), fun L nL => ?_⟩
      exact fin ((A.trans A6).two W.up W.fu) (Nat.le_refl _) ra (gd il) (by have sz' : rsz (d + 3) r = 1 := sz; omega) nL
    have e2 : e ≤ 2 := Nat.le_of_not_lt fun z => ce (decide_eq_true (by omega))
    obtain ⟨d, rfl⟩ : ∃ d', d = d' + 1 := ⟨d - 1, by omega⟩
    have p8 : 8 ≤ pick := Nat.le_of_not_lt fun z => c8 (decide_eq_true (by omega))
    refine ⟨_, rfl, _, rfl, _, rfl, _, rfl, _, _, rfl, rfl, ?_⟩
    refine flag1_val rfl rfl ?_
    refine ⟨p, n, u, kt, e + 1, l, fl1 il pick, rfl, by omega, by omega, W5, ok, fun H6 L1 rows1 l1 A6 hl1 R1 len1 => ?_⟩
    have A' := (A.two W.up W.fu).trans A6
    have W6 := W5.adv2 A6
    clear c0 c4 c8 ce
    have len1' := R1.sz
    have pso : ∀ {R : Type}, PG kt "source" (.word so : Pt R) := fun {R} => pgw (ok.s.2 _ hso).1 (.inr (.inr (.inr (.inl ⟨rfl, .inl hso⟩))))
    have pwd : ∀ {R : Type}, PG kt "word" (.word wd : Pt R) := fun {R} => pgw wwd (.inr (.inr (.inr (.inr (.inr (.inr rfl))))))
    refine ⟨_, rfl, rfl, _, rfl, ?_⟩
    by_cases c9 : pick = 9
    · refine iteT' (decide_eq_true (by rw [c9]; rfl)) ?_
      have f1 : fl1 il pick = true := by rw [c9]; unfold fl1; simp
      rw [f1] at R1
      refine ⟨_, rfl, _, rfl, _, rfl, by show 1 ≤ sizeLine; decide, fun t0 n0 => ?_⟩
      have S7 : Same H6 (upd H6 t0 (.tup [.str "leave"])) := Same.new n0
      have e7 : upd H6 t0 (.tup [.str "leave"]) t0 = some (.tup (.str "leave" :: ([] : List Str).map V.str)) := upd_same
      generalize upd H6 t0 (.tup [.str "leave"]) = H7 at S7 e7 ⊢
      refine ⟨by show 1 ≤ sizeLine; decide, fun Ll nl => ?_⟩
      have S8 : Same H7 (upd H7 Ll (.lst [.ref t0])) := Same.new nl
      have e8 : upd H7 Ll (.lst [.ref t0]) Ll = some (.lst [.ref t0]) := upd_same
      generalize upd H7 Ll (.lst [.ref t0]) = H8 at S8 e8 ⊢
      have W8 := W6.same (S7.trans S8)
      refine ⟨_, rfl, _, rfl, p, n, kt, rfl, W8.pl, W8.nm, W.np, ok, fun H9 Lp rowsp A9 Rp => ?_⟩
      refine ⟨by show 5 ≤ sizeLine; decide, fun ti nti => ?_⟩
      have S10 : Same H9 (upd H9 ti (.tup [.str "if", .str so, .str wd, .ref Ll, .ref Lp])) := Same.new nti
      have e10 : upd H9 ti (.tup [.str "if", .str so, .str wd, .ref Ll, .ref Lp]) ti = some (.tup (.str "if" :: ([so, wd].map V.str ++ [.ref Ll, .ref Lp]))) := upd_same
      generalize upd H9 ti (.tup [.str "if", .str so, .str wd, .ref Ll, .ref Lp]) = H10 at S10 e10 ⊢
      refine ⟨by show 1 ≤ sizeLine; decide, fun Li nLi => ?_⟩
      have S11 : Same H10 (upd H10 Li (.lst [.ref ti])) := Same.new nLi
      have e11 : upd H10 Li (.lst [.ref ti]) Li = some (.lst [.ref ti]) := upd_same
      generalize upd H10 Li (.lst [.ref ti]) = H11 at S11 e11 ⊢
      have T11 : Same (tl H6) (tl H11) := (tl_mono (S7.trans S8)).trans ((A9.tl W8.pl).trans (tl_mono (S10.trans S11)))
      obtain ⟨xs1, hx1, rx1⟩ := R1.at_
      have lx1 := rx1.len
      refine ⟨L1, Li, xs1, [.ref ti], rfl, rfl, (tl_some (T11 _ _ (tl_lst hx1))).1, e11, by rw [sizeLine_eq]; show _ + 1 ≤ _; omega, fun Lc nLc => ?_⟩
      have S12 : Same H11 (upd H11 Lc (.lst (xs1 ++ [.ref ti]))) := Same.new nLc
      have e12 : upd H11 Lc (.lst (xs1 ++ [.ref ti])) Lc = some (.lst (xs1 ++ [.ref ti])) := upd_same
      generalize upd H11 Lc (.lst (xs1 ++ [.ref ti])) = H12 at S12 e12 ⊢
      refine ⟨by show 2 ≤ sizeLine; decide, fun t nt => ?_⟩
      have S13 : Same H12 (upd H12 t (.tup [.str "loop", .ref Lc])) := Same.new nt
      have e13 : upd H12 t (.tup [.str "loop", .ref Lc]) t = some (.tup (.str "loop" :: (([] : List Str).map V.str ++ [.ref Lc]))) := upd_same
      generalize upd H12 t (.tup [.str "loop", .ref Lc]) = H13 at S13 e13 ⊢
      refine ⟨by show 1 ≤ sizeLine; decide, fun L nL => ?_⟩
      have S913 := ((S10.trans S11).trans S12).trans S13
      have T : Same (tl H6) (tl H13) := T11.trans (tl_mono (S12.trans S13))
      have T9 : Same (tl H9) (tl H13) := tl_mono S913
      have lv : LocalOk kt true "leave" ([] : List (Pt (Row (d + 1)))) := ⟨by decide +kernel, by decide +kernel, by rw [show fsOf "leave" = ([] : List Str) by decide +kernel]; exact .nil, fun _ => rfl⟩
      have at8 : H13 Ll = some (.lst [.ref t0]) := S913 _ _ (A9.at_ e8 W8.pl rfl)
      have at7 : H13 t0 = some (.tup (.str "leave" :: ([] : List Str).map V.str)) := S913 _ _ (A9.at_ (S8 _ _ e7) W8.pl rfl)
      have rl : RowAt K (tl H13) (d + 1 + 1) ("leave", ([] : List Str).map Pt.word) (.ref t0) := row_wordsT at7
      have sp := (Rp true).sz
      have lp := lsz_len (d := d + 1 + 1) (by omega) rowsp
      have z1 : lsz (d + 2) [(("leave", ([] : List Str).map Pt.word) : Row (d + 2))] = 1 := lsz_ones fun x hx => by rw [List.mem_singleton.mp hx]; exact (good_leaf lv rfl).2
      have sp' : lsz (d + 2) rowsp ≤ 2 := sp
      obtain ⟨row, ri, gi, zi⟩ : ∃ row : Row (d + 3), RowAt K (tl H13) (d + 3) row (.ref ti) ∧ Good kt (d + 3) true row ∧ rsz (d + 3) row ≤ 4 := by
        have mk := mk_row (K := K) (kt := kt) (d := d + 1) (il := true) (w := "if") (zs := [so, wd]) (fs := ["source", "word"]) (gs := ["rows", "rows"]) (qs := [.rows [("leave", ([] : List Str).map Pt.word)], .rows rowsp]) (S13 _ _ (S12 _ _ (S11 _ _ e10)))
          (.cons ⟨Ll, _, rfl, tl_lst at8, .one rl⟩ (.one ((Rp true).lst T9))) (by decide +kernel) (by decide +kernel) (by decide +kernel) (by decide +kernel) (.cons pso (.one pwd)) (.cons ⟨rfl, by show 1 ≤ 20; decide⟩ (.one ⟨rfl, by omega⟩)) (fun l0 hl0 r hr => by
            rcases List.mem_cons.mp hl0 with rfl | hl0
            · rw [List.mem_singleton.mp hr]; exact (good_leaf lv rfl).1
            · rw [List.mem_singleton.mp hl0] at hr; exact (Rp true).good r hr)
        refine ⟨_, mk.1, mk.2.1, Nat.le_trans (Nat.le_of_eq mk.2.2) ?_⟩
        show 1 + (lsz (d + 2) [(("leave", ([] : List Str).map Pt.word) : Row (d + 2))] + (lsz (d + 2) rowsp + 0)) ≤ 4
        omega
      have il1 : innerLoop "loop" il = true := by unfold innerLoop; cases il <;> decide +kernel
      obtain ⟨ra, gd, sz⟩ := mk_row (K := K) (kt := kt) (d := d + 2) (il := il) (w := "loop") (zs := []) (fs := []) (gs := ["rows"]) (qs := [.rows (rows1 ++ [row])]) e13
        (.one ⟨Lc, _, rfl, tl_lst (S13 _ _ e12), (rx1.imp fun _ _ _ z => RowAt.mono T z).app (.one ri)⟩) (by decide +kernel) (by decide +kernel) (by decide +kernel) (by decide +kernel) .nil (.one ⟨rfl, by rw [List.length_append]; show _ + 1 ≤ 20; omega⟩) (fun l0 hl0 r hr => by
          rw [List.mem_singleton.mp hl0] at hr
          rw [il1]
          rcases List.mem_append.mp hr with h | h
          · exact R1.good r h
          · rw [List.mem_singleton.mp h]; exact gi)
      refine fin (((A'.same (S7.trans S8)).adv A9 W.up).same S913) hl1 ra gd ?_ nL
      have z3 := lsz_app (d := d + 3) rows1 [row]
      have z4 := lsz_one (d := d + 3) row
      refine Nat.le_trans (Nat.le_of_eq sz) ?_
      show 1 + (lsz (d + 3) (rows1 ++ [row]) + 0) ≤ _
      have len1'' : lsz (d + 3) rows1 ≤ 5 * l - 5 * l1 := len1'
      omega
    refine iteF' (decide_eq_false (fun z => c9 (by have := V.int.inj z; omega))) ?_
    refine ⟨_, rfl, rfl, _, rfl, ?_⟩
    have len1'' : lsz (d + 3) rows1 ≤ 5 * l - 5 * l1 := len1'
    by_cases c12 : pick = 12
    · refine iteT' (decide_eq_true (by rw [c12]; rfl)) ?_
      have f1 : fl1 il pick = innerLoop "past" il := by rw [c12]; unfold fl1 innerLoop; cases il <;> decide +kernel
      rw [f1] at R1
      obtain ⟨gg, g7, h7⟩ := W6.nm.ids
      refine ⟨_, rfl, _, rfl, n, _, rfl, g7, p, gg, kt.gates, rfl, W6.pl, h7, by rw [ok.g.1]; decide, by rw [ok.g.1]; decide, fun gi hgi H7 A7 => ?_⟩
      refine ⟨_, rfl, by show 3 ≤ sizeLine; decide, fun t nt => ?_⟩
      have S8 : Same H7 (upd H7 t (.tup [.str "past", .str gi, .ref L1])) := Same.new nt
      have e8 : upd H7 t (.tup [.str "past", .str gi, .ref L1]) t = some (.tup (.str "past" :: ([gi].map V.str ++ [.ref L1]))) := upd_same
      generalize upd H7 t (.tup [.str "past", .str gi, .ref L1]) = H8 at S8 e8 ⊢
      refine ⟨by show 1 ≤ sizeLine; decide, fun L nL => ?_⟩
      have T : Same (tl H6) (tl H8) := (A7.tl W6.pl).trans (tl_mono S8)
      obtain ⟨ra, gd, sz⟩ := mk_row (K := K) (kt := kt) (d := d + 2) (il := il) (w := "past") (zs := [gi]) (fs := ["gate"]) (gs := ["rows"]) (qs := [.rows rows1]) e8 (.one (R1.lst T)) (by decide +kernel) (by decide +kernel) (by decide +kernel) (by decide +kernel)
        (.one (pgw (ok.g.2 _ hgi).1 (.inr (.inr (.inr (.inr (.inr (.inl ⟨rfl, hgi⟩)))))))) (.one ⟨rfl, by omega⟩) (fun l0 hl0 r hr => by rw [List.mem_singleton.mp hl0] at hr; exact R1.good r hr)
      refine fin ((A'.adv A7 W.up).same S8) hl1 ra gd (Nat.le_trans (Nat.le_of_eq sz) ?_) nL
      show 1 + (lsz (d + 3) rows1 + 0) ≤ _
      omega
    refine iteF' (decide_eq_false (fun z => c12 (by have := V.int.inj z; omega))) ?_
    refine ⟨_, rfl, rfl, _, rfl, ?_⟩
    by_cases c13 : pick = 13
    · refine iteT' (decide_eq_true (by rw [c13]; rfl)) ?_
      have f1 : fl1 il pick = innerLoop "part" il := by rw [c13]; unfold fl1 innerLoop; cases il <;> decide +kernel
      rw [f1] at R1
      refine ⟨_, rfl, il, rfl, ?_⟩
      cases il with
      | true =>
        refine iteT ?_
        refine ⟨by show 1 ≤ sizeLine; decide, fun t nt => ?_⟩
        have S8 : Same H6 (upd H6 t (.tup [.str "leave"])) := Same.new nt
        have e8 : upd H6 t (.tup [.str "leave"]) t = some (.tup (.str "leave" :: ([] : List Str).map V.str)) := upd_same
        generalize upd H6 t (.tup [.str "leave"]) = H8 at S8 e8 ⊢
        refine ⟨by show 1 ≤ sizeLine; decide, fun L nL => ?_⟩
        have lv : LocalOk kt true "leave" (([] : List Str).map Pt.word : List (Pt (Row (d + 3)))) := ⟨by decide +kernel, by decide +kernel, by rw [show fsOf "leave" = ([] : List Str) by decide +kernel]; exact .nil, fun _ => rfl⟩
        refine fin (A'.same S8) hl1 (row_wordsT e8) (good_leaf lv rfl).1 (Nat.le_trans (Nat.le_of_eq (good_leaf lv rfl).2) ?_) nL
        omega
      | false =>
        refine iteF ?_
        refine ⟨_, rfl, rfl, _, rfl, ?_⟩
        refine iteT' (decide_eq_true (by rw [c13]; rfl)) ?_
        refine ⟨_, rfl, by show 2 ≤ sizeLine; decide, fun t nt => ?_⟩
        have S8 : Same H6 (upd H6 t (.tup [.str "part", .ref L1])) := Same.new nt
        have e8 : upd H6 t (.tup [.str "part", .ref L1]) t = some (.tup (.str "part" :: (([] : List Str).map V.str ++ [.ref L1]))) := upd_same
        generalize upd H6 t (.tup [.str "part", .ref L1]) = H8 at S8 e8 ⊢
        refine ⟨by show 1 ≤ sizeLine; decide, fun L nL => ?_⟩
        obtain ⟨ra, gd, sz⟩ := mk_row (K := K) (kt := kt) (d := d + 2) (il := false) (w := "part") (zs := []) (fs := []) (gs := ["rows"]) (qs := [.rows rows1]) e8 (.one (R1.lst (tl_mono S8))) (by decide +kernel) (by decide +kernel) (by decide +kernel) (by decide +kernel)
          .nil (.one ⟨rfl, by omega⟩) (fun l0 hl0 r hr => by rw [List.mem_singleton.mp hl0] at hr; exact R1.good r hr)
        refine fin (A'.same S8) hl1 ra gd (Nat.le_trans (Nat.le_of_eq sz) ?_) nL
        show 1 + (lsz (d + 3) rows1 + 0) ≤ _
        omega
    refine iteF' (decide_eq_false (fun z => c13 (by have := V.int.inj z; omega))) ?_
    refine iteF ?_
    refine ⟨_, rfl, rfl, _, rfl, ?_⟩
    refine iteF' (decide_eq_false (fun z => c13 (by have := V.int.inj z; omega))) ?_
    refine ⟨_, rfl, _, rfl, _, rfl, _, rfl, _, _, rfl, rfl, ?_⟩
    refine flag2_val rfl rfl ?_
    refine ⟨p, n, u, kt, e + 1, l1, fl2 il pick, rfl, by omega, by omega, W6, ok, fun H7 L2 rows2 l2 A7 hl2 R2 len2 => ?_⟩
    have A2' := A'.trans A7
    have W7 := W6.adv2 A7
    replace R1 := R1.adv A7 W6.pl W6.fu
    have len2' := R2.sz
    have len2'' : lsz (d + 3) rows2 ≤ 5 * l1 - 5 * l2 := len2'
    refine ⟨_, rfl, rfl, _, rfl, ?_⟩
    by_cases c8 : pick = 8
    · refine iteT' (decide_eq_true (by rw [c8]; rfl)) ?_
      have f1 : fl1 il pick = innerLoop "if" il := by rw [c8]; unfold fl1 innerLoop; cases il <;> decide +kernel
      have f2 : fl2 il pick = innerLoop "if" il := by rw [c8]; unfold fl2 innerLoop; cases il <;> decide +kernel
      rw [f1] at R1
      rw [f2] at R2
      refine ⟨_, rfl, _, rfl, _, rfl, _, rfl, by show 5 ≤ sizeLine; decide, fun t nt => ?_⟩
      have S8 : Same H7 (upd H7 t (.tup [.str "if", .str so, .str wd, .ref L1, .ref L2])) := Same.new nt
      have e8 : upd H7 t (.tup [.str "if", .str so, .str wd, .ref L1, .ref L2]) t = some (.tup (.str "if" :: ([so, wd].map V.str ++ [.ref L1, .ref L2]))) := upd_same
      generalize upd H7 t (.tup [.str "if", .str so, .str wd, .ref L1, .ref L2]) = H8 at S8 e8 ⊢
      refine ⟨by show 1 ≤ sizeLine; decide, fun L nL => ?_⟩
      obtain ⟨ra, gd, sz⟩ := mk_row (K := K) (kt := kt) (d := d + 2) (il := il) (w := "if") (zs := [so, wd]) (fs := ["source", "word"]) (gs := ["rows", "rows"]) (qs := [.rows rows1, .rows rows2]) e8 (.cons (R1.lst (tl_mono S8)) (.one (R2.lst (tl_mono S8)))) (by decide +kernel) (by decide +kernel) (by decide +kernel) (by decide +kernel)
        (.cons pso (.one pwd)) (.cons ⟨rfl, by omega⟩ (.one ⟨rfl, by omega⟩)) (fun l0 hl0 r hr => by
          rcases List.mem_cons.mp hl0 with rfl | hl0
          · exact R1.good r hr
          · rw [List.mem_singleton.mp hl0] at hr; exact R2.good r hr)
      refine fin (A2'.same S8) (by omega) ra gd (Nat.le_trans (Nat.le_of_eq sz) ?_) nL
      show 1 + (lsz (d + 3) rows1 + (lsz (d + 3) rows2 + 0)) ≤ _
      omega
    refine iteF' (decide_eq_false (fun z => c8 (by have := V.int.inj z; omega))) ?_
    refine ⟨_, rfl, rfl, _, rfl, ?_⟩
    by_cases c10 : pick = 10
    · refine iteT' (decide_eq_true (by rw [c10]; rfl)) ?_
      have f1 : fl1 il pick = innerLoop "both" il := by rw [c10]; unfold fl1 innerLoop; cases il <;> decide +kernel
      have f2 : fl2 il pick = innerLoop "both" il := by rw [c10]; unfold fl2 innerLoop; cases il <;> decide +kernel
      rw [f1] at R1
      rw [f2] at R2
      refine ⟨_, rfl, _, rfl, by show 2 ≤ sizeLine; decide, fun q nq => ?_⟩
      have S8 : Same H7 (upd H7 q (.tup [.ref L1, .ref L2])) := Same.new nq
      have e8 : upd H7 q (.tup [.ref L1, .ref L2]) q = some (.tup [.ref L1, .ref L2]) := upd_same
      generalize upd H7 q (.tup [.ref L1, .ref L2]) = H8 at S8 e8 ⊢
      refine ⟨by show 2 ≤ sizeLine; decide, fun t nt => ?_⟩
      have S9 : Same H8 (upd H8 t (.tup [.str "both", .ref q])) := Same.new nt
      have e9 : upd H8 t (.tup [.str "both", .ref q]) t = some (.tup (.str "both" :: (([] : List Str).map V.str ++ [.ref q]))) := upd_same
      generalize upd H8 t (.tup [.str "both", .ref q]) = H9 at S9 e9 ⊢
      refine ⟨by show 1 ≤ sizeLine; decide, fun L nL => ?_⟩
      have T := tl_mono (S8.trans S9)
      obtain ⟨ra, gd, sz⟩ := mk_row (K := K) (kt := kt) (d := d + 2) (il := il) (w := "both") (zs := []) (fs := []) (gs := ["sides"]) (qs := [.sides [rows1, rows2]]) e9 (.one ⟨q, _, rfl, SqT.of (tl_tup (S9 _ _ e8)), .cons (R1.lst T) (.one (R2.lst T))⟩) (by decide +kernel) (by decide +kernel) (by decide +kernel) (by decide +kernel)
        .nil (.one ⟨rfl, .inl rfl, fun l0 hl0 => by
          rcases List.mem_cons.mp hl0 with rfl | hl0
          · omega
          · rw [List.mem_singleton.mp hl0]; omega⟩) (fun l0 hl0 r hr => by
          rcases List.mem_cons.mp hl0 with rfl | hl0
          · exact R1.good r hr
          · rw [List.mem_singleton.mp hl0] at hr; exact R2.good r hr)
      refine fin (A2'.same (S8.trans S9)) (by omega) ra gd (Nat.le_trans (Nat.le_of_eq sz) ?_) nL
      show 1 + (lsz (d + 3) rows1 + (lsz (d + 3) rows2 + 0)) ≤ _
      omega
    refine iteF' (decide_eq_false (fun z => c10 (by have := V.int.inj z; omega))) ?_
    have c11 : pick = 11 := by omega
    have f1 : fl1 il pick = innerLoop "gate" il := by rw [c11]; unfold fl1 innerLoop; cases il <;> decide +kernel
    have f2 : fl2 il pick = innerLoop "gate" il := by rw [c11]; unfold fl2 innerLoop; cases il <;> decide +kernel
    rw [f1] at R1
    rw [f2] at R2
    obtain ⟨gg, g8, h8⟩ := W7.nm.ids
    refine ⟨_, rfl, _, rfl, n, _, rfl, g8, p, gg, kt.gates, rfl, W7.pl, h8, by rw [ok.g.1]; decide, by rw [ok.g.1]; decide, fun gi hgi H8 A8 => ?_⟩
    refine ⟨_, rfl, _, rfl, by show 4 ≤ sizeLine; decide, fun t nt => ?_⟩
    have S9 : Same H8 (upd H8 t (.tup [.str "gate", .str gi, .ref L1, .ref L2])) := Same.new nt
    have e9 : upd H8 t (.tup [.str "gate", .str gi, .ref L1, .ref L2]) t = some (.tup (.str "gate" :: ([gi].map V.str ++ [.ref L1, .ref L2]))) := upd_same
    generalize upd H8 t (.tup [.str "gate", .str gi, .ref L1, .ref L2]) = H9 at S9 e9 ⊢
    refine ⟨by show 1 ≤ sizeLine; decide, fun L nL => ?_⟩
    have T : Same (tl H7) (tl H9) := (A8.tl W7.pl).trans (tl_mono S9)
    obtain ⟨ra, gd, sz⟩ := mk_row (K := K) (kt := kt) (d := d + 2) (il := il) (w := "gate") (zs := [gi]) (fs := ["gate"]) (gs := ["rows", "rows"]) (qs := [.rows rows1, .rows rows2]) e9 (.cons (R1.lst T) (.one (R2.lst T))) (by decide +kernel) (by decide +kernel) (by decide +kernel) (by decide +kernel)
      (.one (pgw (ok.g.2 _ hgi).1 (.inr (.inr (.inr (.inr (.inr (.inl ⟨rfl, hgi⟩)))))))) (.cons ⟨rfl, by omega⟩ (.one ⟨rfl, by omega⟩)) (fun l0 hl0 r hr => by
        rcases List.mem_cons.mp hl0 with rfl | hl0
        · exact R1.good r hr
        · rw [List.mem_singleton.mp hl0] at hr; exact R2.good r hr)
    refine fin ((A2'.adv A8 W.up).same S9) (by omega) ra gd (Nat.le_trans (Nat.le_of_eq sz) ?_) nL
    show 1 + (lsz (d + 3) rows1 + (lsz (d + 3) rows2 + 0)) ≤ _
    omega
end
end OR

set_option Elab.async false
set_option maxRecDepth 100000
set_option maxHeartbeats 8000000
set_option linter.all false
namespace OR
open PySem PySem.Spec PyProof.Rows L2 TS2
theorem tm_tl {TA : AT} {TS : ST} {x : Addr × HO} (h : x ∈ ATm TA ++ STm TS) : isTL x.2 = true := by
  unfold ATm STm at h
  simp only [List.mem_append, List.mem_map] at h
  rcases h with ⟨y, _, rfl⟩ | ⟨y, _, rfl⟩ | ⟨y, _, rfl⟩ <;> rfl
section
variable {H H' : Hp} {sd n a s i R : Addr} {kt : Kit} {TA : AT} {TS : ST}
theorem SpecAt.kp {C : Addr → Prop} (h : SpecAt H sd n a s i R kt TA TS) (k : Kp C H H') (h1 : ¬ C sd) (h2 : ¬ C n) (h3 : ¬ C a) (h4 : ¬ C s) (no : ∀ b o, C b → H b = some o → isTL o = false) : SpecAt H' sd n a s i R kt TA TS :=
  ⟨k _ _ h.sd h1, nm_kp h.nm k h2 no, k _ _ h.a h3, k _ _ h.s h4, k _ _ h.i fun c => (by have := no _ _ c h.i; cases this), fun x hx => k _ _ (h.tm x hx) fun c => (by have := no _ _ c (h.tm x hx); rw [tm_tl hx] at this; cases this)⟩
theorem SpecAt.same (h : SpecAt H sd n a s i R kt TA TS) (S : Same H H') : SpecAt H' sd n a s i R kt TA TS := h.kp (C := fun _ => False) (Kp.of S) (fun c => c) (fun c => c) (fun c => c) (fun c => c) fun _ _ c => c.elim
theorem SpecAt.putR (h : SpecAt H sd n a s i R kt TA TS) (d : sd ≠ n ∧ sd ≠ a ∧ sd ≠ s ∧ n ≠ a ∧ n ≠ s ∧ a ≠ s) (R' : Addr) : SpecAt (upd H sd (.dK (spK n a s i R'))) sd n a s i R' kt TA TS := by
  have k : Kp (· = sd) H (upd H sd (.dK (spK n a s i R'))) := fun b o e c => by rw [upd_ne c]; exact e
  have no : ∀ b o, b = sd → H b = some o → isTL o = false := fun b o c e => by
    rw [c, h.sd] at e
    cases e
    rfl
  have g : SpecAt (upd H sd (.dK (spK n a s i R'))) sd n a s i R' kt TA TS := ⟨upd_same, nm_kp h.nm k (Ne.symm d.1) no, k _ _ h.a (Ne.symm d.2.1), k _ _ h.s (Ne.symm d.2.2.1), k _ _ h.i fun c => (by have := no _ _ c h.i; cases this), fun x hx => k _ _ (h.tm x hx) fun c => (by have := no _ _ c (h.tm x hx); rw [tm_tl hx] at this; cases this)⟩
  exact g
theorem sp_put (h : H sd = some (.dK (spK n a s i R))) (R' : Addr) : DPut H sd (.str "rows") (.ref R') (upd H sd (.dK (spK n a s i R'))) := DPut.k (k := .inr "rows") h (small1000 (by show 5 ≤ 1000; decide))
end
theorem Adv2.back {p u : Addr} {l : Nat} {H0 H H1 : Hp} (a : Adv2 p u l H H1) (b : Adv p H0 H) (n : H0 u = none) : Adv p H0 H1 := by
  refine ⟨fun x o e c => a.k _ _ (b.k _ _ e c) fun z => ?_, a.p, fun x e => b.f _ (a.f _ e)⟩
  rcases z with z | z
  · exact c z
  · rw [z, n] at e; cases e
theorem Adv.own {p D : Addr} {H H' : Hp} {o : HO} (A : Adv p H H') (hp : PoolAt H p) (nD : H D = none) : Adv p H (upd H' D o) := by
  have pD : p ≠ D := fun z => by obtain ⟨_, _, _, e⟩ := hp; rw [z, nD] at e; cases e
  refine ⟨fun b u e n => ?_, ?_, fun b e => ?_⟩
  · rw [upd_ne (fun z => by rw [z, nD] at e; cases e)]
    exact A.k b u e n
  · obtain ⟨x, y, z, h⟩ := A.p
    exact ⟨x, y, z, by rw [upd_ne pD]; exact h⟩
  · by_cases z : b = D
    · rw [z]; exact nD
    · rw [upd_ne z] at e; exact A.f b e
/-- a spec with its rows -/
structure Spec (K : PySem.W.Frag) (H : Hp) (sd n a s i R : Addr) (kt : Kit) (TA : AT) (TS : ST) (rows : List (Row 5)) (m : Nat) : Prop where
  at_ : SpecAt H sd n a s i R kt TA TS
  is_ : SpecIs kt TA TS
  r : ∃ xs, H R = some (.lst xs) ∧ All2 (RowAt K (tl H) 5) rows xs
  g : ∀ x ∈ rows, Good kt 5 false x
  z : lsz 5 rows ≤ m
  d : sd ≠ n ∧ sd ≠ a ∧ sd ≠ s ∧ n ≠ a ∧ n ≠ s ∧ a ≠ s
def spSpec (K : PySem.W.Frag) : Sp := fun vs H Q _ => ∃ (p : Addr) (l : Nat), vs = [.ref p, .int l, .int 2] ∧ PoolAt H p ∧
  ∀ (H' : Hp) (sd n a s i R : Addr) (kt : Kit) (TA : AT) (TS : ST) (rows : List (Row 5)), Adv p H H' → H sd = none → H n = none → H a = none → H s = none → Spec K H' sd n a s i R kt TA TS rows (5 * l) → Q (.ref sd) H'
section
variable {P : Program} {w : World} {K : PySem.W.Frag} {mg : Str → Option Value} {base : Heap}
theorem ok_spec {k0 : Nat} {f : Addr} {fd : FuncData} (F : FnP K "_law_spec" "_law_spec" s__law_spec f fd) (T : Tx w K mg) (h3 : 3 ≤ k0) (G__law_parts : Def P w K mg base CX0 3 "_law_parts" p__law_parts (spParts K)) (G__law_block : Def P w K mg base CX0 k0 "_law_block" p__law_block (spBlock K 4)) : FnOk P w K mg base CX0 (k0 + 1) f fd p__law_spec (spSpec K) := by
  refine F.ok sc__law_spec (fun vs H Q E h => ?_) (fun cdv A outer s H vs Q E hr h => ?_)
  · obtain ⟨p, l, rfl, _⟩ := h
    rfl
  · obtain ⟨p, l, rfl, hp, k⟩ := h
    have hu := hu_of hr
    refine ⟨_, PSs.nox (pss_cons (ps_set (i := 3) sc__law_spec.nd rfl (.inl rfl) (pe_fn G__law_parts (hr.mono (by omega)) (by rfl) pass0 (pa_cons (pv 0) pa_nil)))
      (pss_cons (ps_set (i := 4) sc__law_spec.nd rfl (.inl rfl) (pe_disp (pps_cons pe_str (pv 1) (pps_cons pe_str (pv 2) pps_nil)) (by rfl) (by rfl) (fun z => by cases z) (by decide)))
      (pss_cons (ps_dput hu (pv 3) pe_str (pe_fn G__law_block (hr.mono (by omega)) (by rfl) pass0 (pa_cons (pv 0) (pa_cons (pe_dget hu (pv 3) pe_str (fun _ _ => rfl)) (pa_cons (pv 4) (pa_cons pe_int (pa_cons pe_bl pa_nil)))))) rfl)
      (pss_cons (ps_dput hu (pv 3) pe_str (pe_op op_cat (pe_dget hu (pv 3) pe_str (fun _ _ => rfl)) (pe_fn G__law_block (hr.mono (by omega)) (by rfl) pass0 (pa_cons (pv 0) (pa_cons (pe_dget hu (pv 3) pe_str (fun _ _ => rfl)) (pa_cons (pv 4) (pa_cons pe_int (pa_cons pe_bl pa_nil))))))) rfl)
      (pss_one (ps_ret (pv 3))))))), ?_⟩
    refine ⟨_, rfl, p, rfl, hp, fun H1 sd n a s' i R kt TA TS A1 nsd nn na ns dd sp hR is_ => ?_⟩
    intro u nu
    refine ⟨_, rfl, _, rfl, upd_same, fuK l, rfl, by show 2 ≤ 15; decide, ?_⟩
    rw [show mergeK [] (fuK l) = fuK l from rfl, upd_upd]
    have Su : Same H1 (upd H1 u (.dK (fuK l))) := Same.new nu
    have e2 : upd H1 u (.dK (fuK l)) u = some (.dK (fuK l)) := upd_same
    have u0 : H u = none := A1.f _ nu
    have nof : ∀ {x : Addr}, H x = none → x ≠ p := fun {x} e z => by obtain ⟨_, _, _, h⟩ := hp; rw [z, h] at e; cases e
    have un : ∀ {x : Addr} {o : HO}, H1 x = some o → x ≠ u := fun {x o} e => ne_of_none e nu
    have nu' : n ≠ u := by obtain ⟨_, _, _, _, _, _, h, _⟩ := sp.nm; exact un h
    generalize upd H1 u (.dK (fuK l)) = H2 at Su e2 ⊢
    have sp2 := sp.same Su
    have A2 := A1.same Su
    have W : W2 H2 p n u kt l := ⟨A2.p, sp2.nm, e2, nof nn, nu', nof u0⟩
    have usd := un sp.sd
    have ua := un sp.a
    have us := un sp.s
    have nc : ∀ {x : Addr}, H x = none → x ≠ u → ¬ (x = p ∨ x = u) := fun {x} e f z => z.elim (nof e) f
    refine ⟨_, rfl, _, rfl, sd, _, rfl, DGet.k (k := .inr "names") sp2.sd, _, rfl, p, n, u, kt, 1, l, false, rfl, rfl, by decide, W, is_.nm, fun H3 L1 rows1 l1 A3 hl1 R1 len1 => ?_⟩
    have sp3 := sp2.kp A3.k (nc nsd usd) (nc nn nu') (nc na ua) (nc ns us) fun _ _ => two_no W.pl W.fu
    have A3' := A3.back A2 u0
    have W3 := W.adv2 A3
    refine ⟨_, rfl, sd, _, rfl, sp_put sp3.sd L1, ?_⟩
    have sp4 := sp3.putR dd L1
    have A4 := A3'.own (o := .dK (spK n a s' i L1)) hp nsd
    have k4 : Kp (· = sd) H3 (upd H3 sd (.dK (spK n a s' i L1))) := fun b o e c => by rw [upd_ne c]; exact e
    have no4 : ∀ b o, b = sd → H3 b = some o → isTL o = false := fun b o c e => by
      rw [c, sp3.sd] at e
      cases e
      rfl
    have R1' := R1.next k4 no4
    have u4 : upd H3 sd (.dK (spK n a s' i L1)) u = some (.dK (fuK l1)) := by rw [upd_ne usd.symm]; exact A3.u
    generalize upd H3 sd (.dK (spK n a s' i L1)) = H4 at sp4 A4 k4 R1' u4 ⊢
    have W4 : W2 H4 p n u kt l1 := ⟨A4.p, sp4.nm, u4, W.np, W.nu, W.up⟩
    refine ⟨_, rfl, sd, _, rfl, DGet.k (k := .inr "rows") sp4.sd, _, rfl, _, rfl, sd, _, rfl, DGet.k (k := .inr "names") sp4.sd, _, rfl, p, n, u, kt, 1, l1, false, rfl, rfl, by decide, W4, is_.nm, fun H5 L2 rows2 l2 A5 hl2 R2 len2 => ?_⟩
    have sp5 := sp4.kp A5.k (nc nsd usd) (nc nn nu') (nc na ua) (nc ns us) fun _ _ => two_no W4.pl W4.fu
    have A5' := A5.back A4 u0
    have R15 := R1'.adv A5 W4.pl W4.fu
    obtain ⟨xs1, h1, r1⟩ := R15.at_
    obtain ⟨xs2, h2, r2⟩ := R2.at_
    have l1' := r1.len
    have l2' := r2.len
    refine ⟨L1, L2, xs1, xs2, rfl, rfl, h1, h2, by rw [sizeLine_eq]; omega, fun q nq => ?_⟩
    have S6 : Same H5 (upd H5 q (.lst (xs1 ++ xs2))) := Same.new nq
    have e6 : upd H5 q (.lst (xs1 ++ xs2)) q = some (.lst (xs1 ++ xs2)) := upd_same
    generalize upd H5 q (.lst (xs1 ++ xs2)) = H6 at S6 e6 ⊢
    have sp6 := sp5.same S6
    have A6 := A5'.same S6
    refine ⟨_, rfl, sd, _, rfl, sp_put sp6.sd q, ?_⟩
    have sp7 := sp6.putR dd q
    have A7 := A6.own (o := .dK (spK n a s' i q)) hp nsd
    have k7 : Kp (· = sd) H6 (upd H6 sd (.dK (spK n a s' i q))) := fun b o e c => by rw [upd_ne c]; exact e
    have no7 : ∀ b o, b = sd → H6 b = some o → isTL o = false := fun b o c e => by
      rw [c, sp6.sd] at e
      cases e
      rfl
    have q7 : upd H6 sd (.dK (spK n a s' i q)) q = some (.lst (xs1 ++ xs2)) := k7 _ _ e6 fun z => by have := no7 _ _ z e6; cases this
    have T : Same (tl H5) (tl (upd H6 sd (.dK (spK n a s' i q)))) := (tl_mono S6).trans (tl_kp k7 no7)
    have z1 := R1.sz
    have z2 := R2.sz
    refine ⟨_, rfl, k _ sd n a s' i q kt TA TS (rows1 ++ rows2) A7 nsd nn na ns ⟨sp7, is_, ⟨_, q7, (r1.app r2).imp fun _ _ _ z => RowAt.mono T z⟩, fun x hx => ?_, ?_, dd⟩⟩
    · rcases List.mem_append.mp hx with h | h
      · exact R1.good x h
      · exact R2.good x h
    · rw [lsz_app]
      have z1' : lsz 5 rows1 ≤ 5 * l - 5 * l1 := z1
      have z2' : lsz 5 rows2 ≤ 5 * l1 - 5 * l2 := z2
      omega
end
end OR

set_option Elab.async false
set_option maxRecDepth 100000
set_option maxHeartbeats 8000000
set_option linter.all false
namespace OR
open PySem PySem.Spec PyProof.Rows L2 TS2
def C4 (p sd a s : Addr) : Addr → Prop := fun b => b = p ∨ b = sd ∨ b = a ∨ b = s
/-- what stands while a spec is widened -/
structure Wd (H Hc : Hp) (p sd n a s i R : Addr) (TA : AT) (TS : ST) : Prop where
  d : (sd ≠ a ∧ sd ≠ s ∧ a ≠ s) ∧ (sd ≠ p ∧ a ≠ p ∧ s ≠ p)
  pl : PoolAt Hc p
  kp : Kp (C4 p sd a s) H Hc
  f : ∀ b, Hc b = none → H b = none
  no : ∀ b o, C4 p sd a s b → H b = some o → isTL o = false
  sd : Hc sd = some (.dK (spK n a s i R))
  a : Hc a = some (.dK (ATk TA))
  s : Hc s = some (.dK (STk TS))
  tm : ∀ x ∈ ATm TA ++ STm TS, Hc x.1 = some x.2
section
variable {H Hc H2 : Hp} {p sd n a s i R : Addr} {TA : AT} {TS : ST}
theorem Wd.tl (w : Wd H Hc p sd n a s i R TA TS) : Same (tl H) (tl Hc) := tl_kp w.kp w.no
theorem Wd.call (w : Wd H Hc p sd n a s i R TA TS) (A : Adv p Hc H2) : Wd H H2 p sd n a s i R TA TS :=
  ⟨w.d, A.p, w.kp.trans (A.k.mono fun _ c => .inl c), fun b e => w.f b (A.f b e), w.no, A.k _ _ w.sd w.d.2.1, A.k _ _ w.a w.d.2.2.1, A.k _ _ w.s w.d.2.2.2, fun x hx => A.at_ (w.tm x hx) w.pl (tm_tl hx)⟩
theorem Wd.same (w : Wd H Hc p sd n a s i R TA TS) (S : Same Hc H2) : Wd H H2 p sd n a s i R TA TS := w.call ((Adv.refl w.pl).same S)
theorem Wd.put {q : Addr} {o : HO} (w : Wd H Hc p sd n a s i R TA TS) (hq : q = sd ∨ q = a ∨ q = s) (hc : ∃ kvs, Hc q = some (.dK kvs)) : PoolAt (upd Hc q o) p ∧ Kp (C4 p sd a s) H (upd Hc q o) ∧ (∀ b, upd Hc q o b = none → H b = none) ∧ ∀ {x : Addr} {v : HO}, Hc x = some v → isTL v = true → upd Hc q o x = some v := by
  obtain ⟨kvs, hc⟩ := hc
  refine ⟨?_, fun b v e nc => ?_, fun b e => ?_, fun {x v} e t => ?_⟩
  · obtain ⟨x, y, z, h⟩ := w.pl
    refine ⟨x, y, z, ?_⟩
    rw [upd_ne ?_]
    · exact h
    · rcases hq with rfl | rfl | rfl
      · exact w.d.2.1.symm
      · exact w.d.2.2.1.symm
      · exact w.d.2.2.2.symm
  · rw [upd_ne (fun z => nc (by rcases hq with h | h | h <;> rw [z, h] <;> simp [C4]))]
    exact w.kp b v e nc
  · by_cases c : b = q
    · rw [c, upd_same] at e; cases e
    · rw [upd_ne c] at e; exact w.f b e
  · rw [upd_ne (fun z => by rw [z, hc] at e; cases e; cases t)]
    exact e
theorem Wd.setS (w : Wd H Hc p sd n a s i R TA TS) (T' : ST) (h : ∀ y ∈ STm T', Hc y.1 = some y.2) : Wd H (upd Hc s (.dK (STk T'))) p sd n a s i R TA T' := by
  obtain ⟨h1, h2, h3, h4⟩ := w.put (o := .dK (STk T')) (.inr (.inr rfl)) ⟨_, w.s⟩
  refine ⟨w.d, h1, h2, h3, w.no, by rw [upd_ne w.d.1.2.1]; exact w.sd, by rw [upd_ne w.d.1.2.2]; exact w.a, upd_same, fun x hx => ?_⟩
  refine h4 ?_ (tm_tl hx)
  rcases List.mem_append.mp hx with hx | hx
  · exact w.tm x (List.mem_append_left _ hx)
  · exact h x hx
theorem Wd.setA (w : Wd H Hc p sd n a s i R TA TS) (T' : AT) (h : ∀ y ∈ ATm T', Hc y.1 = some y.2) : Wd H (upd Hc a (.dK (ATk T'))) p sd n a s i R T' TS := by
  obtain ⟨h1, h2, h3, h4⟩ := w.put (o := .dK (ATk T')) (.inr (.inl rfl)) ⟨_, w.a⟩
  refine ⟨w.d, h1, h2, h3, w.no, by rw [upd_ne w.d.1.1]; exact w.sd, upd_same, by rw [upd_ne (Ne.symm w.d.1.2.2)]; exact w.s, fun x hx => ?_⟩
  refine h4 ?_ (tm_tl hx)
  rcases List.mem_append.mp hx with hx | hx
  · exact h x hx
  · exact w.tm x (List.mem_append_right _ hx)
theorem Wd.setD (w : Wd H Hc p sd n a s i R TA TS) (i' R' : Addr) : Wd H (upd Hc sd (.dK (spK n a s i' R'))) p sd n a s i' R' TA TS := by
  obtain ⟨h1, h2, h3, h4⟩ := w.put (o := .dK (spK n a s i' R')) (.inl rfl) ⟨_, w.sd⟩
  exact ⟨w.d, h1, h2, h3, w.no, upd_same, by rw [upd_ne (Ne.symm w.d.1.1)]; exact w.a, by rw [upd_ne (Ne.symm w.d.1.2.1)]; exact w.s, fun x hx => h4 (w.tm x hx) (tm_tl hx)⟩
theorem Wd.keep (w : Wd H Hc p sd n a s i R TA TS) {q : Addr} {o v : HO} (hq : q = sd ∨ q = a ∨ q = s) (hc : ∃ kvs, Hc q = some (.dK kvs)) {x : Addr} (e : Hc x = some v) (t : isTL v = true) : upd Hc q o x = some v := (w.put (o := o) hq hc).2.2.2 e t
end
theorem sqL_same {K : PySem.W.Frag} {H H' : Hp} {a : Addr} {xs : List V} (h : SqL K H a xs) (S : Same H H') : SqL K H' a xs := by
  rcases h with (h | ⟨o, h⟩) | h
  · exact .inl (.inl (S _ _ h))
  · exact .inl (.inr ⟨o, S _ _ h⟩)
  · exact .inr h
/-- a wide spec -/
structure Wide (K : PySem.W.Frag) (H : Hp) (sd n a s i R : Addr) (kt : Kit) (TA : AT) (TS : ST) (rows : List (Row 5)) : Prop where
  sd : H sd = some (.dK (spK n a s i R))
  a : H a = some (.dK (ATk TA))
  s : H s = some (.dK (STk TS))
  i : H i = some (.tup (kt.inputs.map V.str))
  tm : ∀ x ∈ ATm TA ++ STm TS, H x.1 = some x.2
  r : ∃ xs, H R = some (.lst xs) ∧ All2 (RowAt K H 5) rows xs
/-- what is known of it wherever it stands -/
structure WideIs (kt : Kit) (TA : AT) (TS : ST) (rows : List (Row 5)) : Prop where
  ka : kt.ka = ATk TA
  ks : kt.ks = STk TS
  gA : AGood TA kt.asks
  gS : SGood TS kt.sigs
  wA : ∀ z ∈ kt.asks, isWord z = true
  wS : ∀ z ∈ kt.sigs, isWord z = true
  nA : kt.asks.Nodup
  nS : kt.sigs.Nodup
  lA : kt.asks.length ≤ 6
  lS : kt.sigs.length ≤ 3
  i : WsOk 3 kt.inputs
  ok : kt.Ok
  g : ∀ x ∈ rows, Good kt 5 false x
  z : lsz 5 rows ≤ 60
theorem Wide.same {K : PySem.W.Frag} {H H' : Hp} {sd n a s i R : Addr} {kt : Kit} {TA : AT} {TS : ST} {rows : List (Row 5)} (w : Wide K H sd n a s i R kt TA TS rows) (S : Same H H') : Wide K H' sd n a s i R kt TA TS rows := by
  obtain ⟨h1, h2, h3, h4, h5, xs, h6, h7⟩ := w
  exact ⟨S _ _ h1, S _ _ h2, S _ _ h3, S _ _ h4, fun x hx => S _ _ (h5 x hx), xs, S _ _ h6, h7.imp fun _ _ _ q => RowAt.mono S q⟩
def spWide (K : PySem.W.Frag) : Sp := fun vs H Q _ => ∃ (sc : Addr) (ns : List Int), vs = [.ref sc] ∧ SqL K H sc (ns.map V.int) ∧ ns.length ≤ 63 ∧
  ∀ (H' : Hp) (sd n a s i R : Addr) (kt : Kit) (TA : AT) (TS : ST) (rows : List (Row 5)), Wide K H' sd n a s i R kt TA TS rows → WideIs kt TA TS rows → Q (.ref sd) H'
section
variable {P : Program} {w : World} {K : PySem.W.Frag} {mg : Str → Option Value} {base : Heap}
theorem ok_wide {k0 : Nat} {f : Addr} {fd : FuncData} (F : FnP K "_law_wide" "_law_wide" s__law_wide f fd) (T : Tx w K mg) (h2 : 2 ≤ k0) (G__law_pool : Def P w K mg base CX0 1 "_law_pool" p__law_pool (spPool K)) (G__law_draw : Def P w K mg base CX0 1 "_law_draw" p__law_draw spDraw) (G__law_names : Def P w K mg base CX0 2 "_law_names" p__law_names (spLNames K)) (G__law_spec : Def P w K mg base CX0 k0 "_law_spec" p__law_spec (spSpec K)) : FnOk P w K mg base CX0 (k0 + 1) f fd p__law_wide (spWide K) := by
  refine F.ok sc__law_wide (fun vs H Q E h => ?_) (fun cdv A outer s H vs Q E hr h => ?_)
  · obtain ⟨sc, ns, rfl, _⟩ := h
    rfl
  · obtain ⟨sc, ns, rfl, hsc, hl, k⟩ := h
    have hu := hu_of hr
    refine ⟨_, PSs.nox (pss_cons (ps_set (i := 1) sc__law_wide.nd rfl (.inl rfl) (pe_fn G__law_pool (hr.mono (by omega)) (by rfl) pass0 (pa_cons (pv 0) (pa_cons pe_int pa_nil))))
      (pss_cons (ps_set (i := 2) sc__law_wide.nd rfl (.inl rfl) (pe_fn G__law_spec (hr.mono (by omega)) (by rfl) pass0 (pa_cons (pv 1) (pa_cons (pe_op op_add pe_int (pe_fn G__law_draw (hr.mono (by omega)) (by rfl) pass0 (pa_cons (pv 1) (pa_cons pe_int pa_nil)))) (pa_cons pe_int pa_nil)))))
      (pss_cons (ps_set (i := 1) sc__law_wide.nd rfl (.inl rfl) (pe_fn G__law_pool (hr.mono (by omega)) (by rfl) pass0 (pa_cons (pv 0) (pa_cons pe_int pa_nil))))
      (pss_cons (ps_set (i := 3) sc__law_wide.nd rfl (.inl rfl) (pe_fn G__law_names (hr.mono (by omega)) (by rfl) pass0 (pa_cons (pv 1) (pa_cons pe_int pa_nil))))
      (pss_cons (ps_for PassesOwn.never rfl (pi_range1 (by rfl) T.b_range (pa_cons (pe_fn G__law_draw (hr.mono (by omega)) (by rfl) pass0 (pa_cons (pv 1) (pa_cons pe_int pa_nil))) pa_nil)) (pg_name (i := 4) sc__law_wide.nd rfl (.inl rfl)) (pss_one (ps_dput hu (pe_dget hu (pv 2) pe_str (fun _ _ => rfl)) (pe_ix ix_list (pe_fn G__law_names (hr.mono (by omega)) (by rfl) pass0 (pa_cons (pv 1) (pa_cons pe_int pa_nil))) (pv 4) (fun _ _ => rfl)) (pe_tup (pa_cons (pe_op op_add pe_int (pe_fn G__law_draw (hr.mono (by omega)) (by rfl) pass0 (pa_cons (pv 1) (pa_cons pe_int pa_nil)))) (pa_cons (pe_callTy call_tuple_of (by rfl) T.b_tuple (by decide +kernel) (pa_cons (pe_slice sl_list (pv 3) po_none (po_some (pe_op op_add pe_int (pv 4)))) pa_nil)) pa_nil))) rfl)))
      (C8.pss_cut (ps_if (pt_cmpR op_eq (pe_fn G__law_draw (hr.mono (by omega)) (by rfl) pass0 (pa_cons (pv 1) (pa_cons pe_int pa_nil))) pe_int (nomark _)) (pss_one (ps_dput hu (pe_dget hu (pv 2) pe_str (fun _ _ => rfl)) pe_str (pe_slice sl_tupA (pe_tup (pa_cons pe_str (pa_cons pe_str (pa_cons pe_str (pa_cons pe_str pa_nil))))) po_none (po_some (pe_op op_add pe_int (pe_fn G__law_draw (hr.mono (by omega)) (by rfl) pass0 (pa_cons (pv 1) (pa_cons pe_int pa_nil)))))) rfl)) pss_nil)
      (C8.pss_cut (ps_if (pt_cmpR op_eq (pe_fn G__law_draw (hr.mono (by omega)) (by rfl) pass0 (pa_cons (pv 1) (pa_cons pe_int pa_nil))) pe_int (nomark _)) (pss_one (ps_dput hu (pv 2) pe_str (pe_slice sl_tupA (pe_tup (pa_cons pe_str (pa_cons pe_str (pa_cons pe_str pa_nil)))) po_none (po_some (pe_op op_add pe_int (pe_fn G__law_draw (hr.mono (by omega)) (by rfl) pass0 (pa_cons (pv 1) (pa_cons pe_int pa_nil)))))) rfl)) pss_nil)
      (C8.pss_cut (ps_if (pt_cmpR op_eq (pe_fn G__law_draw (hr.mono (by omega)) (by rfl) pass0 (pa_cons (pv 1) (pa_cons pe_int pa_nil))) pe_int (nomark _)) (pss_one (ps_dput hu (pv 2) pe_str (pe_op op_cat (pe_dget hu (pv 2) pe_str (fun _ _ => rfl)) (pe_lst (pa_cons (pe_tup (pa_cons pe_str (pa_cons (pe_tup (pa_cons (pe_lst pa_nil) (pa_cons (pe_lst (pa_cons (pe_tup (pa_cons pe_str (pa_cons (pe_lst pa_nil) pa_nil))) pa_nil)) (pa_cons (pe_lst (pa_cons (pe_tup (pa_cons pe_str (pa_cons (pe_lst pa_nil) pa_nil))) pa_nil)) pa_nil)))) pa_nil))) (pa_cons (pe_tup (pa_cons pe_str (pa_cons pe_str (pa_cons pe_str (pa_cons (pe_lst pa_nil) (pa_cons (pe_lst pa_nil) pa_nil)))))) pa_nil)))) rfl)) pss_nil)
      (pss_one (ps_ret (pv 2))))))))))), ?_⟩
    refine ⟨_, rfl, sc, ns, 0, rfl, hsc, by decide, hl, fun p1 b1 s1 c1 np1 => ?_⟩
    have S1 : Same H (upd H p1 (.dK (poolK b1 s1 c1))) := Same.new np1
    have P1 : PoolAt (upd H p1 (.dK (poolK b1 s1 c1))) p1 := ⟨_, _, _, upd_same⟩
    generalize upd H p1 (.dK (poolK b1 s1 c1)) = H1 at S1 P1 ⊢
    refine ⟨_, rfl, _, rfl, ?_⟩
    dsimp only [tCons, tC, tNil, List.append_nil]
    refine draw_k (m := 6) P1 (by decide) (by decide) fun ex H2 hex A2 => ?_
    refine ⟨_, _, rfl, rfl, ?_⟩
    have S3f : ∀ {Hx : Hp}, Adv p1 H1 Hx → Same H Hx := fun {Hx} A x o e => A.k _ _ (S1 _ _ e) (ne_of_none e np1)
    refine ⟨p1, 2 + ex, (by rw [show ((2 + ex : Nat) : Int) = 2 + (ex : Int) by omega]; rfl), A2.p, fun H3 sd n a s' i R kt TA TS rows A3 nsd nn na ns' Sp => ?_⟩
    have A13 := A2.trans A3
    refine ⟨_, rfl, sc, ns, 1, rfl, sqL_same hsc (S3f A13), by decide, hl, fun p2 b2 s2 c2 np2 => ?_⟩
    have S4 : Same H3 (upd H3 p2 (.dK (poolK b2 s2 c2))) := Same.new np2
    have P4 : PoolAt (upd H3 p2 (.dK (poolK b2 s2 c2))) p2 := ⟨_, _, _, upd_same⟩
    generalize upd H3 p2 (.dK (poolK b2 s2 c2)) = H4 at S4 P4 ⊢
    obtain ⟨sp, is_, rr, gg, zz, dd⟩ := Sp
    have sp4 := sp.same S4
    have fr : ∀ {x : Addr} {o : HO}, H3 x = some o → x ≠ p2 := fun e => ne_of_none e np2
    have no : ∀ b o, C4 p2 sd a s' b → H4 b = some o → isTL o = false := fun b o c e => by
      rcases c with c | c | c | c
      · exact pool_no P4 c e
      · rw [c, sp4.sd] at e; cases e; rfl
      · rw [c, sp4.a] at e; cases e; rfl
      · rw [c, sp4.s] at e; cases e; rfl
    have W0 : Wd H4 H4 p2 sd n a s' i R TA TS := ⟨⟨⟨dd.2.1, dd.2.2.1, dd.2.2.2.2.2⟩, fr sp.sd, fr sp.a, fr sp.s⟩, P4, Kp.refl _, fun _ e => e, no, sp4.sd, sp4.a, sp4.s, sp4.tm⟩
    have i4 := sp4.i
    refine ⟨_, rfl, p2, 3, rfl, P4, by decide, fun Wl H5 ws A5 nW hW lw gw dw => ?_⟩
    have W5 := W0.call A5
    have i5 := A5.at_ i4 P4 rfl
    obtain ⟨w0, w1, w2, rfl⟩ := three lw
    refine ⟨_, rfl, ?_⟩
    dsimp only [tCons, tC, tNil, List.append_nil]
    refine draw_k (m := 3) W5.pl (by decide) (by decide) fun mm H6 hmm A6 => ?_
    have W6 := W5.call A6
    have i6 := A6.at_ i5 W5.pl rfl
    have hW6 := A6.at_ hW W5.pl rfl
    refine ⟨(mm : Int), rfl, by omega, by omega, ?_⟩
    have nd1 : kt.sigs.Nodup := by
      have := is_.nm.b.1
      match kt.sigs, this with
      | [], _ => exact List.nodup_nil
      | [x], _ => simp
    refine for_range (D := { nx := _, rt := Q }) (lo := 0) (n := ((mm : Int)).toNat) (fun j σ H' => ∃ (v4 : Option V) (TS' : ST) (sg : List Str), σ = [some (.ref sc), some (.ref p2), some (.ref sd), some (.ref Wl), v4] ∧ Wd H4 H' p2 sd n a s' i R TA TS' ∧ SGood TS' sg ∧ sg.Nodup ∧ (∀ x ∈ kt.sigs, x ∈ sg) ∧ (∀ x ∈ sg, isWord x = true) ∧ sg.length ≤ 1 + j ∧ H' i = some (.tup (kt.inputs.map V.str)) ∧ H' Wl = some (.lst ([w0, w1, w2].map V.str)))
      ⟨none, TS, kt.sigs, rfl, W6, is_.gS, nd1, fun _ h => h, fun x hx => (is_.nm.b.2 x hx).1, is_.nm.b.1, i6, hW6⟩ (fun j σ H' hj y => ?_) (fun σ H' y => ?_)
    · obtain ⟨v4, TS', sg, rfl, Wd1, gS, nS, sub, wS, lS, hi, hWl⟩ := y
      have hj2 : j < 2 := by omega
      refine ⟨_, rfl, ?_⟩
      dsimp only [tCons, tC, tNil, List.append_nil]
      refine draw_k (m := 3) Wd1.pl (by decide) (by decide) fun r H8 hr8 A8 => ?_
      have Wd8 := Wd1.call A8
      have hi8 := A8.at_ hi Wd1.pl rfl
      have hW8 := A8.at_ hWl Wd1.pl rfl
      refine ⟨_, _, rfl, rfl, ?_⟩
      refine ⟨_, rfl, _, rfl, _, _, rfl, rfl, _, rfl, Wl, _, rfl, SqL.of hW8, fun q nq => ?_⟩
      have ecut : ∃ l1 : List Str, cutV (List.map V.str [w0, w1, w2]) none (some (1 + (0 + (j : Int)))) = l1.map V.str ∧ WsOk 3 l1 := by
        have g : ∀ z ∈ [w0, w1, w2], isWord z = true := fun z hz => (gw z hz).1
        have d01 : w0 ≠ w1 := fun e => by subst e; simp at dw
        match j, hj2 with
        | 0, _ => exact ⟨[w0], rfl, fun z hz => g z (by simp at hz ⊢; simp [hz]), by simp, by show 1 ≤ 1; decide, by show 1 ≤ 3; decide⟩
        | 1, _ => exact ⟨[w0, w1], rfl, fun z hz => g z (by simp at hz ⊢; rcases hz with h | h <;> simp [h]), by simp [d01], by show 1 ≤ 2; decide, by show 2 ≤ 3; decide⟩
      obtain ⟨l1, e1, ok1⟩ := ecut
      rw [e1]
      have S9 : Same H8 (upd H8 q (.lst (l1.map V.str))) := Same.new nq
      have hq9 : upd H8 q (.lst (l1.map V.str)) q = some (.lst (l1.map V.str)) := upd_same
      generalize upd H8 q (.lst (l1.map V.str)) = H9 at S9 hq9 ⊢
      refine ⟨q, _, rfl, .inl ⟨SqL.of hq9, fun u nu => ?_⟩⟩
      have S10 : Same H9 (upd H9 u (.tup (l1.map V.str))) := Same.new nu
      have hu10 : upd H9 u (.tup (l1.map V.str)) u = some (.tup (l1.map V.str)) := upd_same
      generalize upd H9 u (.tup (l1.map V.str)) = H10 at S10 hu10 ⊢
      refine ⟨by show 2 ≤ sizeLine; decide, fun t nt => ?_⟩
      have er : (1 + (r : Int)) = ((1 + r : Nat) : Int) := by omega
      have S11 : Same H10 (upd H10 t (.tup [.int ((1 + r : Nat) : Int), .ref u])) := Same.new nt
      have ht11 : upd H10 t (.tup [.int ((1 + r : Nat) : Int), .ref u]) t = some (.tup [.int ((1 + r : Nat) : Int), .ref u]) := upd_same
      rw [show (fun i j : Int => V.int (i + j)) 1 (r : Int) = V.int ((1 + r : Nat) : Int) from congrArg V.int er]
      generalize upd H10 t (.tup [.int ((1 + r : Nat) : Int), .ref u]) = H11 at S11 ht11 ⊢
      have S811 := (S9.trans S10).trans S11
      have Wd11 := Wd8.same S811
      refine ⟨_, rfl, sd, _, rfl, DGet.k (k := .inr "signals") Wd11.sd, _, rfl, p2, 3, rfl, Wd11.pl, by decide, fun Nl H12 nn2 A12 nNl hNl lnn gnn dnn => ?_⟩
      have Wd12 := Wd11.call A12
      have hz : j < nn2.length := by omega
      refine ⟨_, rfl, Nl, _, 0 + (j : Int), .str nn2[j], rfl, rfl, SqL.of hNl, by rw [show (0 + (j : Int)) = (j : Int) by omega]; exact map_at hz, ?_⟩
      have lk : (STk TS').length ≤ 1000 := by
        have h1 := congrArg List.length gS.n
        rw [List.length_map] at h1
        unfold STk
        rw [List.length_map]
        omega
      refine ⟨s', _, rfl, DPut.k (k := .inr nn2[j]) Wd12.s (small1000 lk), ?_⟩
      obtain ⟨T', sg', eT, gS', nS', sub', src', len', tm'⟩ := stk_set gS nS nn2[j] (t := t) (u := u) (r := 1 + r) ⟨ok1, by omega, by omega⟩
      rw [eT]
      have t12 := A12.at_ ht11 Wd11.pl rfl
      have u12 := A12.at_ (S11 _ _ hu10) Wd11.pl rfl
      have i12 := A12.at_ (S811 _ _ hi8) Wd11.pl rfl
      have w12 := A12.at_ (S811 _ _ hW8) Wd11.pl rfl
      refine ⟨_, T', sg', rfl, Wd12.setS T' (fun y hy => ?_), gS', nS', fun x hx => sub' x (sub x hx), fun x hx => ?_, by omega, Wd12.keep (.inr (.inr rfl)) ⟨_, Wd12.s⟩ i12 rfl, Wd12.keep (.inr (.inr rfl)) ⟨_, Wd12.s⟩ w12 rfl⟩
      · rcases tm' y hy with h | h | h
        · exact Wd12.tm y (List.mem_append_right _ h)
        · rw [h]; exact t12
        · rw [h]; exact u12
      · rcases src' x hx with h | h
        · exact wS x h
        · rw [h]; exact (gnn _ (List.getElem_mem _)).1
    · obtain ⟨v4, TS', sg, rfl, Wd1, gS, nS, sub, wS, lS, hi, hWl⟩ := y
      refine ⟨fun σ' Hx => ∃ (TA' : AT) (ag : List Str), σ' = [some (.ref sc), some (.ref p2), some (.ref sd), some (.ref Wl), v4] ∧ Wd H4 Hx p2 sd n a s' i R TA' TS' ∧ AGood TA' ag ∧ ag.Nodup ∧ (∀ x ∈ kt.asks, x ∈ ag) ∧ (∀ x ∈ ag, isWord x = true) ∧ ag.length ≤ 3 ∧ Hx i = some (.tup (kt.inputs.map V.str)), ?_, ?_⟩
      · refine ⟨_, rfl, ?_⟩
        dsimp only [tCons, tC, tNil, List.append_nil]
        refine draw_k (m := 2) Wd1.pl (by decide) (by decide) fun d8 H8 hd8 A8 => ?_
        have Wd8 := Wd1.call A8
        have hi8 := A8.at_ hi Wd1.pl rfl
        refine ⟨rfl, _, rfl, ite2 (fun hb => ?_) fun hb => ⟨TA, kt.asks, rfl, Wd8, is_.gA, is_.nm.a.2.1, fun _ h => h, fun x hx => (is_.nm.a.2.2 x hx).1, by have := is_.nm.a.1; omega, hi8⟩⟩
        refine ⟨by show 4 ≤ sizeLine; decide, fun q nq => ?_⟩
        have S9 : Same H8 (upd H8 q (.tup [.str "no", .str "yes", .str "a", .str "zz"])) := Same.new nq
        have hq9 : upd H8 q (.tup [.str "no", .str "yes", .str "a", .str "zz"]) q = some (.tup ((["no", "yes", "a", "zz"] : List Str).map V.str)) := upd_same
        generalize upd H8 q (.tup [.str "no", .str "yes", .str "a", .str "zz"]) = H9 at S9 hq9 ⊢
        have Wd9 := Wd8.same S9
        refine ⟨_, rfl, ?_⟩
        dsimp only [tCons, tC, tNil, List.append_nil]
        refine draw_k (m := 4) Wd9.pl (by decide) (by decide) fun e9 H10 he9 A10 => ?_
        have Wd10 := Wd9.call A10
        have q10 := A10.at_ hq9 Wd9.pl rfl
        have i10 := A10.at_ (S9 _ _ hi8) Wd9.pl rfl
        refine ⟨_, _, rfl, rfl, _, rfl, ?_⟩
        rw [show (1 + (e9 : Int)) = ((1 + e9 : Nat) : Int) by omega]
        refine slA_words q10 (by show 1 + e9 ≤ 4; omega) fun t H11 S11 ht => ?_
        have Wd11 := Wd10.same S11
        have okw : WsOk 4 ((["no", "yes", "a", "zz"] : List Str).take (1 + e9)) := by
          match e9, he9 with
          | 0, _ => unfold WsOk; decide +kernel
          | 1, _ => unfold WsOk; decide +kernel
          | 2, _ => unfold WsOk; decide +kernel
          | 3, _ => unfold WsOk; decide +kernel
        have lk : (ATk TA).length ≤ 1000 := by
          have h1 := congrArg List.length is_.gA.n
          rw [List.length_map] at h1
          have := is_.nm.a.1
          unfold ATk
          rw [List.length_map]
          omega
        refine ⟨_, rfl, sd, _, rfl, DGet.k (k := .inr "asks") Wd11.sd, a, _, rfl, DPut.k (k := .inr "ab") Wd11.a (small1000 lk), ?_⟩
        obtain ⟨T', ag', eT, gA', nA', sub', src', len', tm'⟩ := atk_set is_.gA is_.nm.a.2.1 "ab" (t := t) okw
        rw [eT]
        refine ⟨T', ag', rfl, Wd11.setA T' (fun y hy => ?_), gA', nA', sub', fun x hx => ?_, by have := is_.nm.a.1; omega, Wd11.keep (.inr (.inl rfl)) ⟨_, Wd11.a⟩ (S11 _ _ i10) rfl⟩
        · rcases tm' y hy with h | h
          · exact Wd11.tm y (List.mem_append_left _ h)
          · rw [h]; exact ht
        · rcases src' x hx with h | h
          · exact (is_.nm.a.2.2 x h).1
          · rw [h]; decide +kernel
      rintro σ' H8 ⟨TA', ag, rfl, Wd8, gA, nA, subA, wA, lA, hi8⟩
      refine ⟨fun σ' Hx => ∃ (i' : Addr) (inp : List Str), σ' = [some (.ref sc), some (.ref p2), some (.ref sd), some (.ref Wl), v4] ∧ Wd H4 Hx p2 sd n a s' i' R TA' TS' ∧ WsOk 3 inp ∧ Hx i' = some (.tup (inp.map V.str)), ?_, ?_⟩
      · refine ⟨_, rfl, ?_⟩
        dsimp only [tCons, tC, tNil, List.append_nil]
        refine draw_k (m := 2) Wd8.pl (by decide) (by decide) fun d9 H9 hd9 A9 => ?_
        have Wd9 := Wd8.call A9
        refine ⟨rfl, _, rfl, ite2 (fun hb => ?_) fun hb => ⟨i, kt.inputs, rfl, Wd9, is_.i, A9.at_ hi8 Wd8.pl rfl⟩⟩
        refine ⟨by show 3 ≤ sizeLine; decide, fun q nq => ?_⟩
        have S10 : Same H9 (upd H9 q (.tup [.str "zz", .str "b", .str "a"])) := Same.new nq
        have hq10 : upd H9 q (.tup [.str "zz", .str "b", .str "a"]) q = some (.tup ((["zz", "b", "a"] : List Str).map V.str)) := upd_same
        generalize upd H9 q (.tup [.str "zz", .str "b", .str "a"]) = H10 at S10 hq10 ⊢
        have Wd10 := Wd9.same S10
        refine ⟨_, rfl, ?_⟩
        dsimp only [tCons, tC, tNil, List.append_nil]
        refine draw_k (m := 3) Wd10.pl (by decide) (by decide) fun e9 H11 he9 A11 => ?_
        have Wd11 := Wd10.call A11
        have q11 := A11.at_ hq10 Wd10.pl rfl
        refine ⟨_, _, rfl, rfl, _, rfl, ?_⟩
        rw [show (1 + (e9 : Int)) = ((1 + e9 : Nat) : Int) by omega]
        refine slA_words q11 (by show 1 + e9 ≤ 3; omega) fun t H12 S12 ht => ?_
        have Wd12 := Wd11.same S12
        have okw : WsOk 3 ((["zz", "b", "a"] : List Str).take (1 + e9)) := by
          match e9, he9 with
          | 0, _ => unfold WsOk; decide +kernel
          | 1, _ => unfold WsOk; decide +kernel
          | 2, _ => unfold WsOk; decide +kernel
        refine ⟨_, rfl, sd, _, rfl, DPut.k (k := .inr "inputs") Wd12.sd (small1000 (by show 5 ≤ 1000; decide)), ?_⟩
        rw [show putK (spK n a s' i R) (Sum.inr "inputs" : Key) (.ref t) = spK n a s' t R from rfl]
        exact ⟨t, _, rfl, Wd12.setD t R, okw, Wd12.keep (.inl rfl) ⟨_, Wd12.sd⟩ ht rfl⟩
      rintro σ' H9 ⟨i', inp, rfl, Wd9, oki, hi9⟩
      refine ⟨fun σ' Hx => ∃ (R' : Addr) (rows' : List (Row 5)), σ' = [some (.ref sc), some (.ref p2), some (.ref sd), some (.ref Wl), v4] ∧ Wd H4 Hx p2 sd n a s' i' R' TA' TS' ∧ Hx i' = some (.tup (inp.map V.str)) ∧ (∃ xs, Hx R' = some (.lst xs) ∧ All2 (RowAt K (tl Hx) 5) rows' xs) ∧ (∀ x ∈ rows', Good kt 5 false x) ∧ lsz 5 rows' ≤ 60, ?_, ?_⟩
      · refine ⟨_, rfl, ?_⟩
        dsimp only [tCons, tC, tNil, List.append_nil]
        refine draw_k (m := 3) Wd9.pl (by decide) (by decide) fun d10 H10 hd10 A10 => ?_
        have Wd10 := Wd9.call A10
        have hi10 := A10.at_ hi9 Wd9.pl rfl
        obtain ⟨xs, hR, rx⟩ := rr
        have zz' : lsz 5 rows ≤ 35 := by omega
        have lrows := lsz_len (d := 5) (by decide) rows
        have lx := rx.len
        have R4 : H4 R = some (.lst xs) := S4 _ _ hR
        have R10 : H10 R = some (.lst xs) := (tl_some (Wd10.tl _ _ (tl_lst R4))).1
        have T410 : Same (tl H3) (tl H10) := (tl_mono S4).trans Wd10.tl
        refine ⟨rfl, _, rfl, ite2 (fun hb => ?_) fun hb => ⟨R, rows, rfl, Wd10, hi10, ⟨xs, R10, rx.imp fun _ _ _ z => RowAt.mono T410 z⟩, gg, by omega⟩⟩
        refine ⟨_, rfl, sd, _, rfl, DGet.k (k := .inr "rows") Wd10.sd, ?_⟩
        have M := Md.start Wd10.pl
        refine ⟨by show 0 ≤ sizeLine; decide, fun a0 na0 => ?_⟩
        replace M := M.new na0 (.lst [])
        generalize upd H10 a0 (.lst []) = H11 at M ⊢
        refine ⟨by show 0 ≤ sizeLine; decide, fun b0 nb0 => ?_⟩
        replace M := M.new nb0 (.lst [])
        generalize upd H11 b0 (.lst []) = H12 at M ⊢
        refine ⟨by show 2 ≤ sizeLine; decide, fun b1 nb1 => ?_⟩
        replace M := M.new nb1 (.tup [.str "loop", .ref b0])
        generalize upd H12 b1 (.tup [.str "loop", .ref b0]) = H13 at M ⊢
        refine ⟨by show 1 ≤ sizeLine; decide, fun b2 nb2 => ?_⟩
        replace M := M.new nb2 (.lst [.ref b1])
        generalize upd H13 b2 (.lst [.ref b1]) = H14 at M ⊢
        refine ⟨by show 0 ≤ sizeLine; decide, fun c0 nc0 => ?_⟩
        replace M := M.new nc0 (.lst [])
        generalize upd H14 c0 (.lst []) = H15 at M ⊢
        refine ⟨by show 2 ≤ sizeLine; decide, fun c1 nc1 => ?_⟩
        replace M := M.new nc1 (.tup [.str "part", .ref c0])
        generalize upd H15 c1 (.tup [.str "part", .ref c0]) = H16 at M ⊢
        refine ⟨by show 1 ≤ sizeLine; decide, fun c2 nc2 => ?_⟩
        replace M := M.new nc2 (.lst [.ref c1])
        generalize upd H16 c2 (.lst [.ref c1]) = H17 at M ⊢
        refine ⟨by show 3 ≤ sizeLine; decide, fun e0 ne0 => ?_⟩
        replace M := M.new ne0 (.tup [.ref a0, .ref b2, .ref c2])
        generalize upd H17 e0 (.tup [.ref a0, .ref b2, .ref c2]) = H18 at M ⊢
        refine ⟨by show 2 ≤ sizeLine; decide, fun e1 ne1 => ?_⟩
        replace M := M.new ne1 (.tup [.str "both", .ref e0])
        generalize upd H18 e1 (.tup [.str "both", .ref e0]) = H19 at M ⊢
        refine ⟨by show 0 ≤ sizeLine; decide, fun g0 ng0 => ?_⟩
        replace M := M.new ng0 (.lst [])
        generalize upd H19 g0 (.lst []) = H20 at M ⊢
        refine ⟨by show 0 ≤ sizeLine; decide, fun g1 ng1 => ?_⟩
        replace M := M.new ng1 (.lst [])
        generalize upd H20 g1 (.lst []) = H21 at M ⊢
        refine ⟨by show 5 ≤ sizeLine; decide, fun g2 ng2 => ?_⟩
        replace M := M.new ng2 (.tup [.str "if", .str "in", .str "a", .ref g0, .ref g1])
        generalize upd H21 g2 (.tup [.str "if", .str "in", .str "a", .ref g0, .ref g1]) = H22 at M ⊢
        refine ⟨by show 2 ≤ sizeLine; decide, fun X nX => ?_⟩
        replace M := M.new nX (.lst [.ref e1, .ref g2])
        generalize upd H22 X (.lst [.ref e1, .ref g2]) = H23 at M ⊢
        have R23 := M.a.at_ R10 Wd10.pl rfl
        refine ⟨R, X, xs, [.ref e1, .ref g2], rfl, rfl, R23, M.nth 0 rfl, by rw [sizeLine_eq]; show _ + 2 ≤ _; omega, fun Y nY => ?_⟩
        replace M := M.new nY (.lst (xs ++ [.ref e1, .ref g2]))
        generalize upd H23 Y (.lst (xs ++ [.ref e1, .ref g2])) = H24 at M ⊢
        have Wd24 := Wd10.call M.a
        refine ⟨_, rfl, sd, _, rfl, sp_put Wd24.sd Y, ?_⟩
        have T24 : Same (tl H3) (tl H24) := T410.trans (M.a.tl Wd10.pl)
        obtain ⟨ra1, gd1, sz1⟩ := mk_row (K := K) (H6 := H24) (kt := kt) (d := 2) (il := false) (t := b1) (w := "loop") (zs := []) (fs := []) (gs := ["rows"]) (vs := [.ref b0]) (qs := [.rows []]) (M.nth 11 rfl) (.one ⟨b0, [], rfl, tl_lst (M.nth 12 rfl), .nil⟩) (by decide +kernel) (by decide +kernel) (by decide +kernel) (by decide +kernel) .nil (.one ⟨rfl, by decide⟩) (fun l0 hl0 r hr => by rw [List.mem_singleton.mp hl0] at hr; cases hr)
        obtain ⟨ra2, gd2, sz2⟩ := mk_row (K := K) (H6 := H24) (kt := kt) (d := 2) (il := false) (t := c1) (w := "part") (zs := []) (fs := []) (gs := ["rows"]) (vs := [.ref c0]) (qs := [.rows []]) (M.nth 8 rfl) (.one ⟨c0, [], rfl, tl_lst (M.nth 9 rfl), .nil⟩) (by decide +kernel) (by decide +kernel) (by decide +kernel) (by decide +kernel) .nil (.one ⟨rfl, by decide⟩) (fun l0 hl0 r hr => by rw [List.mem_singleton.mp hl0] at hr; cases hr)
        obtain ⟨rL, ra1', gd1', sz1'⟩ : ∃ r : Row 4, RowAt K (tl H24) 4 r (.ref b1) ∧ Good kt 4 false r ∧ rsz 4 r = 1 := ⟨_, ra1, gd1, sz1⟩
        obtain ⟨rP, ra2', gd2', sz2'⟩ : ∃ r : Row 4, RowAt K (tl H24) 4 r (.ref c1) ∧ Good kt 4 false r ∧ rsz 4 r = 1 := ⟨_, ra2, gd2, sz2⟩
        obtain ⟨ra3, gd3, sz3⟩ := mk_row (K := K) (H6 := H24) (kt := kt) (d := 3) (il := false) (t := e1) (w := "both") (zs := []) (fs := []) (gs := ["sides"]) (vs := [.ref e0]) (qs := [.sides [[], [rL], [rP]]]) (M.nth 5 rfl) (.one ⟨e0, _, rfl, SqT.of (tl_tup (M.nth 6 rfl)), .cons ⟨a0, [], rfl, tl_lst (M.nth 13 rfl), .nil⟩ (.cons ⟨b2, _, rfl, tl_lst (M.nth 10 rfl), .one ra1'⟩ (.one ⟨c2, _, rfl, tl_lst (M.nth 7 rfl), .one ra2'⟩))⟩) (by decide +kernel) (by decide +kernel) (by decide +kernel) (by decide +kernel) .nil (.one ⟨rfl, .inr rfl, fun l0 hl0 => by
            simp only [List.mem_cons, List.not_mem_nil, or_false] at hl0
            rcases hl0 with rfl | rfl | rfl
            · decide
            · show 1 ≤ 20; decide
            · show 1 ≤ 20; decide⟩) (fun l0 hl0 r hr => by
            have hl0 : l0 ∈ [[], [rL], [rP]] := hl0
            simp only [List.mem_cons, List.not_mem_nil, or_false] at hl0
            rcases hl0 with rfl | rfl | rfl
            · cases hr
            · rw [List.mem_singleton.mp hr]; exact gd1'
            · rw [List.mem_singleton.mp hr]; exact gd2')
        obtain ⟨ra4, gd4, sz4⟩ := mk_row (K := K) (H6 := H24) (kt := kt) (d := 3) (il := false) (t := g2) (w := "if") (zs := ["in", "a"]) (fs := ["source", "word"]) (gs := ["rows", "rows"]) (vs := [.ref g0, .ref g1]) (qs := [.rows [], .rows []]) (M.nth 2 rfl) (.cons ⟨g0, [], rfl, tl_lst (M.nth 4 rfl), .nil⟩ (.one ⟨g1, [], rfl, tl_lst (M.nth 3 rfl), .nil⟩)) (by decide +kernel) (by decide +kernel) (by decide +kernel) (by decide +kernel) (.cons (pgw (by decide +kernel) (.inr (.inr (.inr (.inl ⟨rfl, .inr rfl⟩))))) (.one (pgw (by decide +kernel) (.inr (.inr (.inr (.inr (.inr (.inr rfl))))))))) (.cons ⟨rfl, by decide⟩ (.one ⟨rfl, by decide⟩)) (fun l0 hl0 r hr => by
            rcases List.mem_cons.mp hl0 with rfl | hl0
            · cases hr
            · rw [List.mem_singleton.mp hl0] at hr; cases hr)
        obtain ⟨rB, ra3', gd3', sz3'⟩ : ∃ r : Row 5, RowAt K (tl H24) 5 r (.ref e1) ∧ Good kt 5 false r ∧ rsz 5 r ≤ 3 := by
          refine ⟨_, ra3, gd3, Nat.le_trans (Nat.le_of_eq sz3) ?_⟩
          show 1 + (lsz 4 [] + (lsz 4 [rL] + (lsz 4 [rP] + 0))) ≤ 3
          rw [lsz_one, lsz_one, sz1', sz2']
          decide
        obtain ⟨rI, ra4', gd4', sz4'⟩ : ∃ r : Row 5, RowAt K (tl H24) 5 r (.ref g2) ∧ Good kt 5 false r ∧ rsz 5 r ≤ 1 := ⟨_, ra4, gd4, Nat.le_of_eq sz4⟩
        have Y24 := M.nth 0 rfl
        have i24 := M.a.at_ hi10 Wd10.pl rfl
        have kd : Kp (· = sd) H24 (upd H24 sd (.dK (spK n a s' i' Y))) := fun b o e c => by rw [upd_ne c]; exact e
        have nd : ∀ b o, b = sd → H24 b = some o → isTL o = false := fun b o c e => by
          rw [c, Wd24.sd] at e
          cases e
          rfl
        refine ⟨Y, rows ++ [rB, rI], rfl, Wd24.setD i' Y, Wd24.keep (.inl rfl) ⟨_, Wd24.sd⟩ i24 rfl, ⟨xs ++ [.ref e1, .ref g2], Wd24.keep (.inl rfl) ⟨_, Wd24.sd⟩ Y24 rfl, ?_⟩, fun x hx => ?_, ?_⟩
        · exact ((rx.imp fun _ _ _ z => RowAt.mono T24 z).app (.cons ra3' (.one ra4'))).imp fun _ _ _ z => RowAt.mono (tl_kp kd nd) z
        · rcases List.mem_append.mp hx with h | h
          · exact gg x h
          · rcases List.mem_cons.mp h with rfl | h
            · exact gd3'
            · rw [List.mem_singleton.mp h]; exact gd4'
        · rw [lsz_app, lsz_cons, lsz_one]
          omega
      · rintro σ' H10 ⟨R', rows', rfl, Wd10, hi10, ⟨xs, hR, rx⟩, g10, z10⟩
        have sb : kt.Sub ⟨ATk TA', STk TS', ag, sg, kt.gates, inp, kt.labels, kt.slots, kt.words, 5⟩ := ⟨subA, sub, fun _ h => h, fun _ h => h, fun _ h => h⟩
        refine ⟨_, rfl, k H10 sd n a s' i' R' ⟨ATk TA', STk TS', ag, sg, kt.gates, inp, kt.labels, kt.slots, kt.words, 5⟩ TA' TS' rows' ⟨Wd10.sd, Wd10.a, Wd10.s, hi10, Wd10.tm, xs, hR, rx.imp fun _ _ _ z => RowAt.mono tl_same z⟩ ⟨rfl, rfl, gA, gS, wA, wS, nA, nS, by show ag.length ≤ 6; omega, by show sg.length ≤ 3; omega, oki, ⟨atk_keys gA, stk_keys gS, fun hm => (is_.nm.s.2 _ hm).2.1 rfl, Nat.le_of_eq is_.nm.l.1, Nat.le_of_eq is_.nm.s.1, Nat.le_of_eq is_.nm.g.1, Nat.le_refl 5⟩, fun x hx => Good.sub sb 5 false x (g10 x hx), z10⟩⟩
end
end OR

set_option Elab.async false
set_option maxRecDepth 100000
set_option maxHeartbeats 8000000
set_option linter.all false
namespace OR
open PySem PySem.Spec PyProof.Rows L2 TS2
def spWordsIn (K : PySem.W.Frag) : Sp := fun vs H Q _ => ∃ (v : V) (H0 : Hp) (d : Nat) (r : Row (d + 1)) (kt : Kit) (il : Bool), vs = [v] ∧ RowAt K H0 (d + 1) r v ∧ Same H0 H ∧ LocalOk kt il r.1 r.2 ∧
  ∀ (H' : Hp) (D : Addr), Same H H' → H D = none → H' D = some (.lst ((rowWs r.1 r.2).map V.str)) → Q (.ref D) H'
section
variable {P : Program} {w : World} {K : PySem.W.Frag} {mg : Str → Option Value} {base : Heap}
theorem ok_words_in {f : Addr} {fd : FuncData} (F : FnP K "words_in" "words_in" s_words_in f fd) (T : Tx w K mg) : FnOk P w K mg base CX0 1 f fd p_words_in (spWordsIn K) := by
  refine F.ok sc_words_in (fun vs H Q E h => ?_) (fun cdv A outer s H vs Q E hr h => ?_)
  · obtain ⟨v, _, _, _, _, _, rfl, _⟩ := h
    rfl
  · obtain ⟨v, H0, d, r, kt, il, rfl, ⟨a, vs, rfl, ha, hp⟩, S0, lo, k⟩ := h
    refine ⟨_, PSs.nox (pss_cons (ps_set (i := 1) sc_words_in.nd rfl (.inl rfl) (pe_lst (pa_cons (pe_ix ix_tup (pv 0) pe_int (fun _ _ => rfl)) pa_nil)))
      (pss_cons (ps_for PassesOwn.never rfl (RZ.pi_zipA (by rfl) T.b_zip (pa_cons (pe_ix ix_kdict (pe_ref (by rfl) T.m_FORMS) (pe_ix ix_tup (pv 0) pe_int (fun _ _ => rfl)) (fun _ _ => rfl)) (pa_cons (pe_slice sl_tup (pv 0) (po_some pe_int) po_none) pa_nil))) (pg_tup (by rfl) (pgs_cons (pg_name (i := 2) sc_words_in.nd rfl (.inl rfl)) (pgs_cons (pg_name (i := 3) sc_words_in.nd rfl (.inl rfl)) pgs_nil))) (pss_one (ps_if (pt_cmpR op_in_seq (pv 2) (pe_ref (by rfl) T.m_SEVERAL) (by rfl)) (pss_one (ps_expr (pe_bm PySem.F.plainAttrs_list PySem.F.slot_list_extend PySem.F.type_list_extend mt_extendT (pv 1) (pa_cons (pv 3) pa_nil)))) (pss_one (ps_if (pt_cmpR op_notIn_seq (pv 2) (pe_ref (by rfl) T.m_INNER) (by rfl)) (pss_one (ps_expr (pe_bm PySem.F.plainAttrs_list PySem.F.slot_list_append PySem.F.type_list_append mt_append (pv 1) (pa_cons (pv 3) pa_nil)))) pss_nil)))))
      (pss_one (ps_ret (pv 1))))), ?_⟩
    have hk := lo_kinds lo
    have few := (rowWs_len lo).1
    refine ⟨_, rfl, a, _, _, .str r.1, rfl, rfl, sameT S0 ha, at0, by show 1 ≤ sizeLine; decide, fun D nD => ?_⟩
    have S1 : Same H (upd H D (.lst [.str r.1])) := Same.new nD
    have hD : upd H D (.lst [.str r.1]) D = some (.lst [.str r.1]) := upd_same
    generalize upd H D (.lst [.str r.1]) = H1 at S1 hD ⊢
    have ha1 := sameT (S0.trans S1) ha
    obtain ⟨p, e1, hp1⟩ := T.forms _ lo.f
    refine ⟨_, rfl, a, _, _, .str r.1, rfl, rfl, ha1, at0, _, _, .ref p, rfl, rfl, kdct T.D_FORMS e1 rfl, ?_⟩
    refine ⟨_, rfl, 1, rfl, a, _, rfl, ha1, by rw [List.length_cons]; exact not_whole, fun q nq => ?_⟩
    rw [cut1]
    have S2 : Same H1 (upd H1 q (.tup vs)) := Same.new nq
    have hq : upd H1 q (.tup vs) q = some (.tup vs) := upd_same
    generalize upd H1 q (.tup vs) = H2 at S2 hq ⊢
    refine ⟨p, q, (fsOf r.1).map V.str, vs, rfl, .inr ⟨hp1 _, SqT.of hq, ?_⟩⟩
    have lf : (fsOf r.1).length = vs.length := hk.len.trans hp.len
    refine for_it (walk_zipT (K := K) (a := p) (b := q) (xs := (fsOf r.1).map V.str) (ys := vs) (n := vs.length) (by rw [List.length_map, lf]; simp)) (fun i σ' H' => (∃ x y, σ' = [some (.ref a), some (.ref D), x, y]) ∧ Kp (· = D) H2 H' ∧ H' D = some (.lst ((rowWs r.1 (r.2.take i)).map V.str)))
      ⟨⟨none, none, rfl⟩, Kp.refl _, S2 _ _ hD⟩ (fun i σ' H' _ p0 => ?_) (fun i x σ' H3 H4 hi p0 y => ?_) (fun σ' H' p0 => ?_)
    · obtain ⟨_, kp, _⟩ := p0
      exact ⟨hp1 _, SqT.of (kp _ _ hq (fun z => by rw [z, S2 _ _ hD] at hq; cases hq))⟩
    · obtain ⟨⟨x0, y0, rfl⟩, kp, hx⟩ := p0
      obtain ⟨T1, fm, pv0, rfl, nT, rfl, hfm, hpv⟩ := y
      have hfm : ((fsOf r.1).map V.str)[i]? = some fm := hfm
      have hpv : vs[i]? = some pv0 := hpv
      rw [List.getElem?_map] at hfm
      cases ef : (fsOf r.1)[i]? with
      | none => rw [ef] at hfm; cases hfm
      | some f0 =>
        rw [ef] at hfm
        cases Option.some.inj hfm
        obtain ⟨pt, hpt, hpat⟩ := hp.other hpv
        have ko := hk.at_ ef hpt
        have hx4 : upd H3 T1 (.tup [.str f0, pv0]) D = some (.lst ((rowWs r.1 (r.2.take i)).map V.str)) := by rw [upd_ne (ne_of_none hx nT)]; exact hx
        have kp4 : Kp (· = D) H2 (upd H3 T1 (.tup [.str f0, pv0])) := kp.trans (Kp.of (Same.new nT))
        have ws : rowWs r.1 (r.2.take (i + 1)) = rowWs r.1 (r.2.take i) ++ wordsP pt := by
          unfold rowWs
          rw [take_more hpt, List.map_append, List.flatten_append]
          simp
        have kl : (rowWs r.1 (r.2.take i)).length + (wordsP pt).length ≤ 13 := by
          have l1 : (rowWs r.1 (r.2.take (i + 1))).length ≤ (rowWs r.1 r.2).length := by
            unfold rowWs
            conv => rhs; rw [← List.take_append_drop (i + 1) r.2]
            rw [List.map_append, List.flatten_append, List.length_cons, List.length_cons, List.length_append]
            omega
          rw [ws, List.length_append] at l1
          omega
        refine ⟨T1, _, rfl, SqT.of upd_same, rfl, _, _, rfl, _, _, rfl, rfl, ?_⟩
        generalize upd H3 T1 (.tup [.str f0, pv0]) = H5 at hx4 kp4 ⊢
        have S5 : Same H0 H5 := Kp.base (S0.trans (S1.trans S2)) kp4 (fun c e => by subst e; exact S0.free nD)
        have fin : ∀ zs : List Str, wordsP pt = zs → Kp (· = D) H2 (upd H5 D (.lst ((rowWs r.1 (r.2.take i)).map V.str ++ zs.map V.str))) ∧ upd H5 D (.lst ((rowWs r.1 (r.2.take i)).map V.str ++ zs.map V.str)) D = some (.lst ((rowWs r.1 (r.2.take (i + 1))).map V.str)) := fun zs hz =>
          ⟨kp4.trans (Kp.put rfl), by rw [upd_same, ws, hz, List.map_append]⟩
        have same : wordsP pt = [] → Kp (· = D) H2 H5 ∧ H5 D = some (.lst ((rowWs r.1 (r.2.take (i + 1))).map V.str)) := fun hz => ⟨kp4, by rw [hx4, ws, hz, List.append_nil]⟩
        have eS : (if false = true then !inV (.str f0) [.str "labels", .str "words"] else inV (.str f0) [.str "labels", .str "words"]) = decide (f0 ∈ (["labels", "words"] : List Str)) := inV_words ["labels", "words"]
        have eI : (if true = true then !inV (.str f0) [.str "rows", .str "sides"] else inV (.str f0) [.str "rows", .str "sides"]) = !decide (f0 ∈ (["rows", "sides"] : List Str)) := congrArg (fun b => !b) (inV_words ["rows", "sides"])
        refine ⟨_, rfl, _, [.str "labels", .str "words"], rfl, .inr (T.t_SEVERAL _), rfl, rfl, _, rfl, ?_⟩
        cases pt with
        | rows l =>
          have ef0 : f0 = "rows" := by simpa [kindOk] using ko
          subst ef0
          refine iteF' (eS.trans (by decide +kernel)) ?_
          refine ⟨_, rfl, _, [.str "rows", .str "sides"], rfl, .inr (T.t_INNER _), rfl, rfl, _, rfl, ?_⟩
          refine iteF' (eI.trans (by decide +kernel)) ?_
          exact ⟨⟨_, _, rfl⟩, same rfl⟩
        | sides l =>
          have ef0 : f0 = "sides" := by simpa [kindOk] using ko
          subst ef0
          refine iteF' (eS.trans (by decide +kernel)) ?_
          refine ⟨_, rfl, _, [.str "rows", .str "sides"], rfl, .inr (T.t_INNER _), rfl, rfl, _, rfl, ?_⟩
          refine iteF' (eI.trans (by decide +kernel)) ?_
          exact ⟨⟨_, _, rfl⟩, same rfl⟩
        | words l =>
          have ef0 : f0 = "labels" ∨ f0 = "words" := by simpa [kindOk] using ko
          refine iteT' (eS.trans (decide_eq_true (by rcases ef0 with e | e <;> simp [e]))) ?_
          obtain ⟨b, rfl, hb⟩ := hpat
          have z1 : ((rowWs r.1 (r.2.take i)).map V.str).length + (l.map V.str).length ≤ 1000 := by rw [List.length_map, List.length_map]; have : (rowWs r.1 (r.2.take i)).length + l.length ≤ 13 := kl; omega
          refine ⟨_, rfl, .inl ⟨rfl, _, SqL.of hx4⟩, _, rfl, D, b, _, _, rfl, rfl, hx4, sameT S5 hb, Nat.le_of_lt (small1000 z1), ?_⟩
          exact ⟨⟨_, _, rfl⟩, fin l rfl⟩
        | word s0 =>
          have n4 : f0 ≠ "rows" ∧ f0 ≠ "sides" ∧ f0 ≠ "labels" ∧ f0 ≠ "words" := by simp [kindOk] at ko; exact ⟨ko.1.1.1, ko.1.1.2, ko.1.2, ko.2⟩
          obtain ⟨m1, m2, m3, m4⟩ := n4
          cases (show pv0 = .str s0 from hpat)
          refine iteF' (eS.trans (decide_eq_false (by simp [m3, m4]))) ?_
          refine ⟨_, rfl, _, [.str "rows", .str "sides"], rfl, .inr (T.t_INNER _), rfl, rfl, _, rfl, ?_⟩
          refine iteT' (eI.trans (by simp [m1, m2])) ?_
          have z1 : ((rowWs r.1 (r.2.take i)).map V.str).length ≤ 1000 := by rw [List.length_map]; omega
          refine ⟨_, rfl, .inl ⟨rfl, _, SqL.of hx4⟩, _, rfl, D, _, .str s0, rfl, rfl, hx4, small1000 z1, ?_⟩
          exact ⟨⟨_, _, rfl⟩, fin [s0] rfl⟩
    · obtain ⟨⟨x0, y0, rfl⟩, kp, hx⟩ := p0
      rw [← hp.len, List.take_length] at hx
      exact ⟨_, rfl, k H' D (fun b o hb => kp b o (S2 b o (S1 b o hb)) (fun z => by rw [z, nD] at hb; cases hb)) nD hx⟩
end
end OR

set_option Elab.async false
set_option maxRecDepth 100000
set_option maxHeartbeats 8000000
set_option linter.all false
namespace OR
open PySem PySem.Spec PyProof.Rows L2 TS2
def spLinesOf (K : PySem.W.Frag) : Nat → Sp
  | 0 => fun _ _ _ _ => False
  | d + 1 => fun vs H Q _ => ∃ (a : Addr) (lv : Nat) (H0 : Hp) (rows : List (Row (d + 1))) (xs : List V) (kt : Kit) (il : Bool), vs = [.ref a, .int lv] ∧ H0 a = some (.lst xs) ∧ Same H0 H ∧ All2 (RowAt K H0 (d + 1)) rows xs ∧ (∀ r ∈ rows, Good kt (d + 1) il r) ∧ lsz (d + 1) rows ≤ 60 ∧ lv + 2 * (d + 1) ≤ 20 ∧
    ∀ (H' : Hp) (D : Addr), Same H H' → H D = none → H' D = some (.lst ((lineL (d + 1) rows lv).map V.str)) → Q (.ref D) H'
def spInner (K : PySem.W.Frag) (d : Nat) : Sp := fun vs H Q _ => ∃ (v : V) (lv : Nat) (H0 : Hp) (r : Row (d + 1)) (kt : Kit) (il : Bool), vs = [v, .int lv] ∧ RowAt K H0 (d + 1) r v ∧ Same H0 H ∧ Good kt (d + 1) il r ∧ rsz (d + 1) r ≤ 60 ∧ lv + 2 * (d + 1) ≤ 20 ∧
  ∀ (H' : Hp) (D : Addr), Same H H' → H D = none → H' D = some (.lst ((innerLs (lineL d) r.1 lv 0 (kids r.2)).map V.str)) → Q (.ref D) H'
theorem rsz_le {d : Nat} {rows : List (Row d)} {r : Row d} (h : r ∈ rows) : rsz d r ≤ lsz d rows := by
  unfold lsz
  induction rows with
  | nil => cases h
  | cons x rows ih =>
    rw [List.map_cons, List.sum_cons]
    rcases List.mem_cons.mp h with rfl | h
    · omega
    · have := ih h; omega
theorem inner_len {kt : Kit} {d : Nat} {il : Bool} {r : Row (d + 1)} (g : Good kt (d + 1) il r) (lv : Nat) : (innerLs (lineL d) r.1 lv 0 (kids r.2)).length ≤ 14 * rsz (d + 1) r := by
  have e := lineL_one r lv
  have b := (lineL_bd (kt := kt) (d + 1) il [r] (fun x hx => by rw [List.mem_singleton.mp hx]; exact g) lv).2
  rw [e, List.length_cons, lsz_one] at b
  omega
section
variable {P : Program} {w : World} {K : PySem.W.Frag} {mg : Str → Option Value} {base : Heap}
theorem ok_lines_of {k0 d : Nat} {f : Addr} {fd : FuncData} (F : FnP K "lines_of" "lines_of" s_lines_of f fd) (T : Tx w K mg) (h1 : 1 ≤ k0) (G_words_in : Def P w K mg base CX0 1 "words_in" p_words_in (spWordsIn K)) (G_inner_lines : Def P w K mg base CX0 k0 "inner_lines" p_inner_lines (spInner K d)) : FnOk P w K mg base CX0 (k0 + 1) f fd p_lines_of (spLinesOf K (d + 1)) := by
  refine F.ok sc_lines_of (fun vs H Q E h => ?_) (fun cdv A outer s H vs Q E hr h => ?_)
  · obtain ⟨a, lv, _, _, _, _, _, rfl, _⟩ := h
    rfl
  · obtain ⟨a, lv, H0, rows, xs, kt, il, rfl, ha, S0, rx, g, sz, llv, k⟩ := h
    obtain ⟨tSTEP, mSTEP⟩ := T.m_STEP
    refine ⟨_, PSs.nox (pss_cons (ps_set (i := 2) sc_lines_of.nd rfl (.inl rfl) (pe_lst pa_nil))
      (pss_cons (ps_for PassesOwn.never rfl (pi_list (pv 0)) (pg_name (i := 3) sc_lines_of.nd rfl (.inl rfl)) (pss_cons (ps_expr (pe_bm PySem.F.plainAttrs_list PySem.F.slot_list_append PySem.F.type_list_append mt_append (pv 2) (pa_cons (pe_op op_add_str (pe_op op_rpt (pe_glob (by rfl) mSTEP (show RelV (.str "  ") _ from ⟨_, rfl⟩)) (pv 1)) (pe_join pe_str (pe_fn G_words_in (hr.mono (by omega)) (by rfl) pass0 (pa_cons (pv 3) pa_nil)))) pa_nil)))
      (pss_one (ps_expr (pe_bm PySem.F.plainAttrs_list PySem.F.slot_list_extend PySem.F.type_list_extend mt_extend (pv 2) (pa_cons (pe_fn G_inner_lines (hr.mono (by omega)) (by rfl) pass0 (pa_cons (pv 3) (pa_cons (pv 1) pa_nil))) pa_nil))))))
      (pss_one (ps_ret (pv 2))))), ?_⟩
    have lrows := lsz_len (d := d + 1) (by omega) rows
    refine ⟨by show 0 ≤ sizeLine; decide, fun D nD => ?_⟩
    have S1 : Same H (upd H D (.lst [])) := Same.new nD
    have hD : upd H D (.lst []) D = some (.lst []) := upd_same
    generalize upd H D (.lst []) = H1 at S1 hD ⊢
    have ha1 := S1 _ _ (S0 _ _ ha)
    have aD : a ≠ D := ne_of_none (S0 _ _ ha) nD
    have lx := rx.len
    refine ⟨_, rfl, a, rfl, ⟨_, SqL.of ha1⟩, ?_⟩
    refine for_it (walk_list (K := K) (a := a) (xs := xs)) (fun i σ' H' => (∃ x, σ' = [some (.ref a), some (.int lv), some (.ref D), x]) ∧ Kp (· = D) H1 H' ∧ H' D = some (.lst ((lineL (d + 1) (rows.take i) lv).map V.str)))
      ⟨⟨none, rfl⟩, Kp.refl _, hD⟩ (fun i σ' H' _ q => ?_) (fun i x σ' H3 H4 hi q y => ?_) (fun σ' H3 q => ?_)
    · exact SqL.of (q.2.1 _ _ ha1 aD)
    · obtain ⟨⟨x3, rfl⟩, kp, hx⟩ := q
      obtain ⟨rfl, hxi⟩ := y
      obtain ⟨r, hr', hrow⟩ := rx.other hxi
      have rm : r ∈ rows := List.mem_of_getElem? hr'
      have gr := g r rm
      have S3 : Same H0 H4 := Kp.base (S0.trans S1) kp fun c e => by subst e; exact S0.free nD
      have e1 : lineL (d + 1) (rows.take (i + 1)) lv = lineL (d + 1) (rows.take i) lv ++ ((rpt "  " lv ++ Txt.join " " (rowWs r.1 r.2)) :: innerLs (lineL d) r.1 lv 0 (kids r.2)) := by
        rw [take_more hr', lineL_app, lineL_one]
      have bd := (lineL_bd (kt := kt) (d + 1) il (rows.take (i + 1)) (fun x hx => g x (List.mem_of_mem_take hx)) lv).2
      have tk : lsz (d + 1) (rows.take (i + 1)) ≤ lsz (d + 1) rows := by
        conv => rhs; rw [← List.take_append_drop (i + 1) rows]
        rw [lsz_app]
        omega
      rw [e1, List.length_append, List.length_cons] at bd
      refine ⟨_, rfl, .inl ⟨rfl, _, SqL.of hx⟩, ?_⟩
      have hl := head_len gr.1
      have rw13 := (rowWs_len gr.1).1
      have sp1 : (" " : Str).length = 1 := by decide +kernel
      have sumw : ((rowWs r.1 r.2).map (·.length)).sum ≤ 8 * (rowWs r.1 r.2).length := sum_le _ fun z hz => (rowWs_len gr.1).2 z hz
      refine ⟨_, rfl, "  ", lv, rfl, rfl, by decide +kernel, by decide +kernel, by omega, ?_⟩
      refine ⟨⟨_, rfl⟩, _, rfl, x, H0, d, r, kt, il, rfl, hrow, S3, gr.1, fun H5 W S45 nW hW => ?_⟩
      refine ⟨" ", W, rowWs r.1 r.2, rfl, rfl, .inl (SqL.of hW), by rw [sp1]; omega, ?_⟩
      refine ⟨_, _, rfl, rfl, by rw [rpt2_len, sizeLine_eq]; omega, ?_⟩
      refine ⟨D, _, _, rfl, rfl, S45 _ _ hx, small1000 (by rw [List.length_map]; omega), ?_⟩
      have kp5 : Kp (· = D) H1 H5 := kp.trans (Kp.of S45)
      generalize hln : rpt "  " lv ++ Txt.join " " (rowWs r.1 r.2) = ln at e1 ⊢
      have kp6 : Kp (· = D) H1 (upd H5 D (.lst ((lineL (d + 1) (rows.take i) lv).map V.str ++ [.str ln]))) := kp5.trans (Kp.put rfl)
      have hx6 : upd H5 D (.lst ((lineL (d + 1) (rows.take i) lv).map V.str ++ [.str ln])) D = some (.lst ((lineL (d + 1) (rows.take i) lv).map V.str ++ [.str ln])) := upd_same
      generalize upd H5 D (.lst ((lineL (d + 1) (rows.take i) lv).map V.str ++ [.str ln])) = H6 at kp6 hx6 ⊢
      have S6 : Same H0 H6 := Kp.base (S0.trans S1) kp6 fun c e => by subst e; exact S0.free nD
      have rl := rsz_le rm
      refine ⟨_, rfl, .inl ⟨rfl, _, SqL.of hx6⟩, _, rfl, _, rfl, x, lv, H0, r, kt, il, rfl, hrow, S6, gr, by omega, llv, fun H7 L S67 nL hL => ?_⟩
      refine ⟨D, L, _, _, rfl, rfl, S67 _ _ hx6, hL, by rw [List.length_append, List.length_map, List.length_map, sizeLine_eq]; show _ + 1 + _ ≤ _; omega, ?_⟩
      refine ⟨⟨_, rfl⟩, (kp6.trans (Kp.of S67)).trans (Kp.put rfl), ?_⟩
      rw [upd_same, e1, List.map_append, List.map_cons, List.append_assoc]
      rfl
    · obtain ⟨⟨x3, rfl⟩, kp, hx⟩ := q
      rw [← lx, List.take_length] at hx
      exact ⟨_, rfl, k H3 D (fun b o e => kp b o (S1 b o e) (ne_of_none e nD)) nD hx⟩
theorem le_sumN {x : Nat} : ∀ {l : List Nat}, x ∈ l → x ≤ l.sum
  | y :: l, h => by
    rw [List.sum_cons]
    rcases List.mem_cons.mp h with rfl | h
    · omega
    · have := le_sumN h
      omega
theorem inner_sub {R : Type} {f : List R → Nat → List Str} {w : Str} {lv : Nat} (ls : List (List R)) (i : Nat) : (innerLs f w lv 0 (ls.take i)).length ≤ (innerLs f w lv 0 ls).length := by
  conv => rhs; rw [← List.take_append_drop i ls]
  rw [innerLs_app, List.length_append]
  omega
theorem ok_inner_lines {k0 d : Nat} {f : Addr} {fd : FuncData} (F : FnP K "inner_lines" "inner_lines" s_inner_lines f fd) (T : Tx w K mg) (h1 : 1 ≤ k0) (G_lists_of : Def P w K mg base CX0 1 "lists_of" p_lists_of (spListsOf K)) (G_lines_of : Def P w K mg base CX0 k0 "lines_of" p_lines_of (spLinesOf K d)) : FnOk P w K mg base CX0 (k0 + 1) f fd p_inner_lines (spInner K d) := by
  refine F.ok sc_inner_lines (fun vs H Q E h => ?_) (fun cdv A outer s H vs Q E hr h => ?_)
  · obtain ⟨v, lv, _, _, _, _, rfl, _⟩ := h
    rfl
  · obtain ⟨v, lv, H0, r, kt, il, rfl, hrow, S0, g, sz, llv, k⟩ := h
    obtain ⟨tSTEP, mSTEP⟩ := T.m_STEP
    refine ⟨_, PSs.nox (pss_cons (ps_set (i := 2) sc_inner_lines.nd rfl (.inl rfl) (pe_lst pa_nil))
      (pss_cons (ps_for PassesOwn.never rfl (pi_enum (by rfl) T.b_enumerate (pa_cons (pe_fn G_lists_of (hr.mono (by omega)) (by rfl) pass0 (pa_cons (pv 0) pa_nil)) pa_nil)) (pg_tup (by rfl) (pgs_cons (pg_name (i := 3) sc_inner_lines.nd rfl (.inl rfl)) (pgs_cons (pg_name (i := 4) sc_inner_lines.nd rfl (.inl rfl)) pgs_nil))) (pss_one (ps_if (pt_cmpR op_eq (pe_ix ix_tup (pv 0) pe_int (fun _ _ => rfl)) pe_str (nomark _)) (pss_cons (ps_expr (pe_bm PySem.F.plainAttrs_list PySem.F.slot_list_append PySem.F.type_list_append mt_append (pv 2) (pa_cons (pe_op op_add_str (pe_op op_rpt (pe_glob (by rfl) mSTEP (show RelV (.str "  ") _ from ⟨_, rfl⟩)) (pe_op op_add (pv 1) pe_int)) pe_str) pa_nil)))
      (pss_one (ps_expr (pe_bm PySem.F.plainAttrs_list PySem.F.slot_list_extend PySem.F.type_list_extend mt_extend (pv 2) (pa_cons (pe_fn G_lines_of (hr.mono (by omega)) (by rfl) pass0 (pa_cons (pv 4) (pa_cons (pe_op op_add (pv 1) pe_int) pa_nil))) pa_nil))))) (C8.pss_cut (ps_if (pt_cmpR op_eq (pv 3) pe_int (nomark _)) (pss_one (ps_expr (pe_bm PySem.F.plainAttrs_list PySem.F.slot_list_append PySem.F.type_list_append mt_append (pv 2) (pa_cons (pe_op op_add_str (pe_op op_rpt (pe_glob (by rfl) mSTEP (show RelV (.str "  ") _ from ⟨_, rfl⟩)) (pv 1)) (pe_ix ix_kdict (pe_ref (by rfl) T.m_DIVIDERS) (pe_ix ix_tup (pv 0) pe_int (fun _ _ => rfl)) (fun _ _ => rfl))) pa_nil)))) pss_nil)
      (pss_one (ps_expr (pe_bm PySem.F.plainAttrs_list PySem.F.slot_list_extend PySem.F.type_list_extend mt_extend (pv 2) (pa_cons (pe_fn G_lines_of (hr.mono (by omega)) (by rfl) pass0 (pa_cons (pv 4) (pa_cons (pe_op op_add (pv 1) pe_int) pa_nil))) pa_nil))))))))
      (pss_one (ps_ret (pv 2))))), ?_⟩
    have il0 := inner_len g lv
    have k12 := (lo_kids g.1).2.1
    refine ⟨by show 0 ≤ sizeLine; decide, fun D nD => ?_⟩
    have S1 : Same H (upd H D (.lst [])) := Same.new nD
    have hD : upd H D (.lst []) D = some (.lst []) := upd_same
    generalize upd H D (.lst []) = H1 at S1 hD ⊢
    refine ⟨_, rfl, v, H0, d, r, fsOf r.1, rfl, hrow, S0.trans S1, g.1.f, lo_kinds g.1, by omega, fun H2 L ls S12 nL hL hls => ?_⟩
    have hD2 := S12 _ _ hD
    have LD : L ≠ D := (ne_of_none hD nL).symm
    have S02 : Same H0 H2 := (S0.trans S1).trans S12
    refine ⟨L, _, rfl, SqL.of hL, ?_⟩
    refine for_it (walk_enum (K := K) (a := L) (xs := ls)) (fun i σ' H' => (∃ x y, σ' = [some v, some (.int lv), some (.ref D), x, y]) ∧ Kp (· = D) H2 H' ∧ H' D = some (.lst ((innerLs (lineL d) r.1 lv 0 ((kids r.2).take i)).map V.str)))
      ⟨⟨none, none, rfl⟩, Kp.refl _, hD2⟩ (fun i σ' H' _ q => ?_) (fun i x σ' H7 H8 hj q y => ?_) (fun σ' H' q => ?_)
    · exact SqL.of (q.2.1 _ _ hL LD)
    · obtain ⟨⟨x0, y0, rfl⟩, kp, hx⟩ := q
      obtain ⟨T2, num2, lv2, rfl, nT2, rfl, hnum2, hlv⟩ := y
      cases Option.some.inj hnum2
      have hlv : ls[i]? = some lv2 := hlv
      obtain ⟨l, hl, b, xs, rfl, hb, hbs⟩ := hls.other hlv
      have lm : l ∈ kids r.2 := List.mem_of_getElem? hl
      have d1 : 1 ≤ d := g.2.1 fun z => by rw [z] at lm; cases lm
      obtain ⟨e, rfl⟩ : ∃ e, d = e + 1 := ⟨d - 1, by omega⟩
      have gl := g.2.2 l lm
      have lsz' : lsz (e + 1) l ≤ 60 := by
        have e1 : rsz (e + 1 + 1) r = 1 + ((kids r.2).map (lsz (e + 1))).sum := rfl
        have e2 : lsz (e + 1) l ≤ ((kids r.2).map (lsz (e + 1))).sum := by
          exact le_sumN (List.mem_map.mpr ⟨l, lm, rfl⟩)
        omega
      have S7 : Same H0 (upd H7 T2 (.tup [.int (i : Nat), .ref b])) := Kp.base S02 (kp.trans (Kp.of (Same.new nT2))) fun c z => by subst z; exact S0.free nD
      have hx7 : upd H7 T2 (.tup [.int (i : Nat), .ref b]) D = some (.lst ((innerLs (lineL (e + 1)) r.1 lv 0 ((kids r.2).take i)).map V.str)) := by rw [upd_ne (ne_of_none hx nT2)]; exact hx
      have kp7 : Kp (· = D) H2 (upd H7 T2 (.tup [.int (i : Nat), .ref b])) := kp.trans (Kp.of (Same.new nT2))
      refine ⟨T2, _, rfl, SqT.of upd_same, rfl, _, _, rfl, _, _, rfl, rfl, ?_⟩
      generalize upd H7 T2 (.tup [.int (i : Nat), .ref b]) = H9 at S7 hx7 kp7 ⊢
      have jlt : i < (kids r.2).length := (List.getElem?_eq_some_iff.mp hl).1
      have e1 : innerLs (lineL (e + 1)) r.1 lv 0 ((kids r.2).take (i + 1)) = innerLs (lineL (e + 1)) r.1 lv 0 ((kids r.2).take i) ++ innerLs (lineL (e + 1)) r.1 lv i [l] := by
        rw [take_more hl, innerLs_app, List.length_take, Nat.min_eq_left (Nat.le_of_lt jlt), Nat.zero_add]
      have bd := inner_sub (f := lineL (e + 1)) (w := r.1) (lv := lv) (kids r.2) (i + 1)
      rw [e1, List.length_append] at bd
      obtain ⟨a, vs, rfl, ha, hp⟩ := id hrow
      refine ⟨_, rfl, a, _, 0, .str r.1, rfl, rfl, sameT S7 ha, at0, rfl, _, rfl, ?_⟩
      have side4 : ("side" : Str).length = 4 := by decide +kernel
      generalize hpr : innerLs (lineL (e + 1)) r.1 lv 0 ((kids r.2).take i) = pr at e1 bd hx7
      by_cases eb : r.1 = "both"
      · refine iteT' (decide_eq_true (by rw [eb])) ?_
        have ei : innerLs (lineL (e + 1)) r.1 lv i [l] = (rpt "  " (lv + 1) ++ "side") :: lineL (e + 1) l (lv + 2) := by
          show (if r.1 = "both" then _ else _) ++ [] = _
          rw [if_pos eb, List.append_nil]
        rw [ei, List.length_cons] at bd
        rw [ei] at e1
        refine ⟨_, rfl, .inl ⟨rfl, _, SqL.of hx7⟩, _, rfl, _, _, rfl, rfl, ?_⟩
        refine ⟨"  ", lv + 1, rfl, by rw [show ((lv + 1 : Nat) : Int) = (lv : Int) + 1 by omega], by decide +kernel, by decide +kernel, by omega, ?_⟩
        refine ⟨_, _, rfl, rfl, by rw [rpt2_len, side4, sizeLine_eq]; omega, ?_⟩
        refine ⟨D, _, _, rfl, rfl, hx7, small1000 (by rw [List.length_map]; omega), ?_⟩
        generalize rpt "  " (lv + 1) ++ "side" = ln at e1 ⊢
        have kp6 : Kp (· = D) H2 (upd H9 D (.lst (pr.map V.str ++ [.str ln]))) := kp7.trans (Kp.put rfl)
        have hx6 : upd H9 D (.lst (pr.map V.str ++ [.str ln])) D = some (.lst (pr.map V.str ++ [.str ln])) := upd_same
        generalize upd H9 D (.lst (pr.map V.str ++ [.str ln])) = H10 at kp6 hx6 ⊢
        have S10 : Same H0 H10 := Kp.base S02 kp6 fun c z => by subst z; exact S0.free nD
        refine ⟨_, rfl, .inl ⟨rfl, _, SqL.of hx6⟩, _, rfl, _, rfl, _, _, rfl, rfl, b, lv + 2, H0, l, xs, kt, _, by rw [show ((lv + 2 : Nat) : Int) = (lv : Int) + 2 by omega]; rfl, hb, S10, hbs, gl, lsz', by omega, fun H11 L2 S11 nL2 hL2 => ?_⟩
        refine ⟨D, L2, _, _, rfl, rfl, S11 _ _ hx6, hL2, by rw [List.length_append, List.length_map, List.length_map, sizeLine_eq]; show _ + 1 + _ ≤ _; omega, ?_⟩
        refine ⟨⟨_, _, rfl⟩, (kp6.trans (Kp.of S11)).trans (Kp.put rfl), ?_⟩
        rw [upd_same, e1, List.map_append, List.map_cons, List.append_assoc]
        rfl
      · refine iteF' (decide_eq_false fun z => eb (V.str.inj z)) ?_
        have ei : innerLs (lineL (e + 1)) r.1 lv i [l] = (if i = 1 then [rpt "  " lv ++ divOf r.1] else []) ++ lineL (e + 1) l (lv + 1) := by
          show (if r.1 = "both" then _ else _) ++ [] = _
          rw [if_neg eb, List.append_nil]
        rw [ei, List.length_append] at bd
        rw [ei] at e1
        refine ⟨fun σ' H' => σ' = [some (.ref a), some (.int lv), some (.ref D), some (.int (i : Nat)), some (.ref b)] ∧ Kp (· = D) H2 H' ∧ H' D = some (.lst ((pr ++ (if i = 1 then [rpt "  " lv ++ divOf r.1] else [])).map V.str)), ?_, ?_⟩
        · refine ⟨_, rfl, rfl, _, rfl, ?_⟩
          by_cases c1 : i = 1
          · refine iteT' (decide_eq_true (by rw [c1]; rfl)) ?_
            have wd : r.1 = "if" ∨ r.1 = "gate" := kids_two g.1 eb (by omega)
            have dv : ∃ u, PySem.W.nsIn K (He.ga K "DIVIDERS") r.1 = some (some u) ∧ RelV (.str (divOf r.1)) u := by
              rcases wd with e | e
              · rw [e]; exact T.dIf
              · rw [e]; exact T.dGate
            obtain ⟨ud, ed, rd⟩ := dv
            have dl := div_len r.1
            rw [if_pos c1] at bd ⊢
            rw [List.length_singleton] at bd
            refine ⟨_, rfl, .inl ⟨rfl, _, SqL.of hx7⟩, _, rfl, "  ", lv, rfl, rfl, by decide +kernel, by decide +kernel, by omega, ?_⟩
            refine ⟨_, rfl, a, _, 0, .str r.1, rfl, rfl, sameT S7 ha, at0, _, _, .str (divOf r.1), rfl, rfl, kdct T.D_DIVIDERS ed rd, ?_⟩
            refine ⟨_, _, rfl, rfl, by rw [rpt2_len, sizeLine_eq]; omega, ?_⟩
            refine ⟨D, _, _, rfl, rfl, hx7, small1000 (by rw [List.length_map]; omega), ?_⟩
            exact ⟨rfl, kp7.trans (Kp.put rfl), by rw [upd_same, List.map_append]; rfl⟩
          · refine iteF' (decide_eq_false fun z => c1 (by have := V.int.inj z; omega)) ?_
            exact ⟨rfl, kp7, by rw [if_neg c1, List.append_nil]; exact hx7⟩
        · rintro σ' H10 ⟨rfl, kp6, hx6⟩
          generalize (if i = 1 then [rpt "  " lv ++ divOf r.1] else []) = dv at e1 bd hx6
          have S10 : Same H0 H10 := Kp.base S02 kp6 fun c z => by subst z; exact S0.free nD
          refine ⟨_, rfl, .inl ⟨rfl, _, SqL.of hx6⟩, _, rfl, _, rfl, _, _, rfl, rfl, b, lv + 1, H0, l, xs, kt, _, by rw [show ((lv + 1 : Nat) : Int) = (lv : Int) + 1 by omega]; rfl, hb, S10, hbs, gl, lsz', by omega, fun H11 L2 S11 nL2 hL2 => ?_⟩
          refine ⟨D, L2, _, _, rfl, rfl, S11 _ _ hx6, hL2, by rw [List.length_map, List.length_map, List.length_append, sizeLine_eq]; omega, ?_⟩
          refine ⟨⟨_, _, rfl⟩, (kp6.trans (Kp.of S11)).trans (Kp.put rfl), ?_⟩
          rw [upd_same, e1, ← List.append_assoc, ← List.map_append]
    · obtain ⟨⟨x0, y0, rfl⟩, kp, hx⟩ := q
      rw [← hls.len, List.take_length] at hx
      exact ⟨_, rfl, k H' D (fun b o e => kp b o (S12 b o (S1 b o e)) (ne_of_none e nD)) nD hx⟩
end
end OR

set_option Elab.async false
set_option maxRecDepth 100000
set_option maxHeartbeats 8000000
set_option linter.all false
namespace OR
open PySem PySem.Spec PyProof.Rows L2 TS2
theorem both_fs : fsOf "both" = (["sides"] : List Str) := by decide +kernel
theorem lo_both {kt : Kit} {il : Bool} {R : Type} {ps : List (Pt R)} (h : LocalOk kt il "both" ps) : ∃ ls, ps = [.sides ls] ∧ kids ps = ls := by
  have p := h.p
  rw [both_fs] at p
  cases p with
  | cons h1 t =>
    cases t
    rename_i x
    cases x with
    | word z => exact absurd rfl h1.2.2.2.2.2.2.2.2.2.2.1
    | words l => rcases h1.1 with e | e <;> exact absurd e (by decide +kernel)
    | rows l => exact absurd h1.1 (by decide +kernel)
    | sides ls => exact ⟨ls, rfl, by unfold kids; simp [kidsP]⟩
theorem lo_none {kt : Kit} {il : Bool} {R : Type} {w : Str} {ps : List (Pt R)} (h : LocalOk kt il w ps) (n : w ≠ "both") : ∀ p ∈ ps, ∀ ls, p ≠ .sides ls := fun p hp ls e => by
  obtain ⟨i, hi⟩ := List.getElem?_of_mem hp
  obtain ⟨f, hf, hg⟩ := h.p.other hi
  rw [e] at hg
  have := hg.1
  exact no_sides _ h.f n (by rw [← this]; exact List.mem_of_getElem? hf)
theorem kids_more {R : Type} {ps : List (Pt R)} {i : Nat} {p : Pt R} (h : ps[i]? = some p) : kids (ps.take (i + 1)) = kids (ps.take i) ++ kidsP p := by
  rw [take_more h, kids_app]
  show _ ++ kids [p] = _
  unfold kids
  simp
def spLLists (K : PySem.W.Frag) (d : Nat) : Sp := fun vs H Q _ => ∃ (v : V) (r : Row (d + 1)) (Hs : Hp), vs = [v] ∧ Same Hs H ∧ RowAt K Hs (d + 1) r v ∧ (∃ kt il, LocalOk kt il r.1 r.2) ∧
  ∀ (H' : Hp) (D : Addr) (Ls : List V), Same H H' → H D = none → H' D = some (.lst Ls) → All2 (LstAt Hs (RowAt K Hs d)) (kids r.2) Ls → Q (.ref D) H'
section
variable {P : Program} {w : World} {K : PySem.W.Frag} {mg : Str → Option Value} {base : Heap}
theorem ok_llists {d : Nat} {f : Addr} {fd : FuncData} (F : FnP K "_law_lists" "_law_lists" s__law_lists f fd) (T : Tx w K mg) : FnOk P w K mg base CX0 1 f fd p__law_lists (spLLists K d) := by
  refine F.ok sc__law_lists (fun vs H Q E h => ?_) (fun cdv A outer s H vs Q E hr h => ?_)
  · obtain ⟨v, r, Hs, rfl, _⟩ := h
    rfl
  · obtain ⟨v, r, Hs, rfl, S0, hv, ⟨kt, il, lo⟩, k⟩ := h
    refine ⟨_, PSs.nox (pss_cons (ps_if (pt_cmpR op_eq (pe_ix ix_tup (pv 0) pe_int (fun _ _ => rfl)) pe_str (nomark _)) (pss_one (ps_ret (pe_callTy call_list_of (by rfl) T.b_list (by decide +kernel) (pa_cons (pe_ix ix_tup (pv 0) pe_int (fun _ _ => rfl)) pa_nil)))) pss_nil)
      (pss_one (ps_ret (pe_lc (own := [("_law_part", 1)]) (g := (gName 1)) (by rfl) sc__law_lists.nd (pi_tup (pv 0)) (blkOk_by (N := n__law_lists) (sc := defScope s__law_lists) (by decide +kernel)) (fun _ _ _ _ _ => (pg_name (i := 1) sc__law_lists.nd rfl (.inl rfl))) (fun _ _ _ _ _ => (pts_one (pt_val (pe_callB (show CallR _ (.builtin "isinstance") (rIsi K) from call_isi) (by rfl) T.b_isinstance (by decide +kernel) (pa_cons (pv 1) (pa_cons (pe_bltn (v := .ty "list") (u := .type "list") (by rfl) T.b_list (by decide +kernel) rfl) pa_nil)))))) (fun _ _ _ _ _ => (pv 1)))))), ?_⟩
    obtain ⟨w, ps⟩ := r
    obtain ⟨a, vs, rfl, ha0, hx⟩ := hv
    dsimp only at ha0 hx lo k
    have ha := sameT S0 ha0
    refine ⟨_, rfl, a, _, 0, .str w, rfl, rfl, ha, at0, rfl, _, rfl, ?_⟩
    by_cases eb : w = "both"
    · subst eb
      refine iteT' (decide_eq_true rfl) ?_
      obtain ⟨ls, rfl, ek⟩ := lo_both lo
      cases hx with
      | cons h1 t =>
      cases t
      obtain ⟨q, xs, rfl, hq, hl⟩ := h1
      refine ⟨_, rfl, a, _, 1, .ref q, rfl, rfl, ha, at1, q, xs, rfl, .inr (sameT S0 hq), fun D nD => ?_⟩
      exact k _ D xs (Same.new nD) nD upd_same (by rw [ek]; exact hl)
    · refine iteF' (decide_eq_false fun z => eb (V.str.inj z)) ?_
      have ns := lo_none lo eb
      have lp : ps.length ≤ 4 := (lo_kids lo).1
      refine ⟨_, rfl, a, rfl, ⟨_, ha⟩, fun D nD => ?_⟩
      refine lc_it (walk_tup (K := K) (a := a) (xs := .str w :: vs)) (fun i H' => Same H H' ∧ ∃ Ls, H' D = some (.lst Ls) ∧ All2 (LstAt Hs (RowAt K Hs d)) (kids (ps.take (i - 1))) Ls) ⟨Same.new nD, [], upd_same, .nil⟩ (fun i H' _ q => sameT q.1 ha) (fun i x H1 H2 hi q y => ?_) (fun H1 q => ?_)
      · obtain ⟨rfl, hx1⟩ := y
        obtain ⟨S1, Ls, hD, hLs⟩ := q
        refine ⟨rfl, ?_⟩
        cases i with
        | zero =>
          cases Option.some.inj hx1
          refine ⟨_, rfl, .str w, .ty "list", _, _, false, rfl, .ty _, .base (.str w), kit_ty (by decide +kernel), _, rfl, ?_⟩
          refine iteF ?_
          exact ⟨S1, Ls, hD, hLs⟩
        | succ j =>
          have hj : vs[j]? = some x := hx1
          obtain ⟨p, hp, hpt⟩ := hx.other hj
          have hm := List.mem_of_getElem? hp
          have e1 : j + 1 + 1 - 1 = j + 1 := by omega
          have e0 : j + 1 - 1 = j := by omega
          rw [e0] at hLs
          cases p with
          | word z =>
            have hpt : x = .str z := hpt
            subst hpt
            refine ⟨_, rfl, .str z, .ty "list", _, _, false, rfl, .ty _, .base (.str z), kit_ty (by decide +kernel), _, rfl, ?_⟩
            refine iteF ?_
            refine ⟨S1, Ls, hD, ?_⟩
            rw [e1, kids_more hp]
            simpa [kidsP] using hLs
          | words l =>
            obtain ⟨q, rfl, hq⟩ := hpt
            refine ⟨_, rfl, .ref q, .ty "list", _, _, false, rfl, .ty _, tyT (sameT (S0.trans S1) hq), kit_ty (by decide +kernel), _, rfl, ?_⟩
            refine iteF ?_
            refine ⟨S1, Ls, hD, ?_⟩
            rw [e1, kids_more hp]
            simpa [kidsP] using hLs
          | rows l =>
            obtain ⟨q, xs, rfl, hq, hl⟩ := id hpt
            refine ⟨_, rfl, .ref q, .ty "list", _, _, true, rfl, .ty _, tyL (SqL.of (S1 _ _ (S0 _ _ hq))), kit_ty (by decide +kernel), _, rfl, ?_⟩
            refine iteT ?_
            refine ⟨_, rfl, Ls, hD, small1000 ?_, fun c o hc => ?_, Ls ++ [.ref q], upd_same, ?_⟩
            · have h1 := hLs.len
              have h2 := kids_take_le ps j
              have h3 := (lo_kids lo).2.1
              omega
            · rw [upd_ne (ne_of_none hc nD)]
              exact S1 _ _ hc
            · rw [e1, kids_more hp]
              exact hLs.app (All2.one hpt)
          | sides ls => exact absurd rfl (ns _ hm ls)
      · obtain ⟨S1, Ls, hD, hLs⟩ := q
        have e : (V.str w :: vs).length - 1 = ps.length := by rw [List.length_cons, ← hx.len]; omega
        rw [e, List.take_length] at hLs
        exact k _ D Ls S1 nD hD hLs
end
end OR

set_option Elab.async false
set_option maxRecDepth 100000
set_option maxHeartbeats 8000000
set_option linter.all false
namespace OR
open PySem PySem.Spec PyProof.Rows L2 TS2
def spLLines (K : PySem.W.Frag) : Nat → Sp
  | 0 => fun _ _ _ _ => False
  | d + 1 => fun vs H Q _ => ∃ (a : Addr) (lv : Nat) (H0 : Hp) (rows : List (Row (d + 1))) (xs : List V) (kt : Kit) (il : Bool), vs = [.ref a, .int lv] ∧ H0 a = some (.lst xs) ∧ Same H0 H ∧ All2 (RowAt K H0 (d + 1)) rows xs ∧ (∀ r ∈ rows, Good kt (d + 1) il r) ∧ lsz (d + 1) rows ≤ 60 ∧ lv + 2 * (d + 1) ≤ 20 ∧
    ∀ (H' : Hp) (D : Addr), Same H H' → H D = none → H' D = some (.lst ((lineL (d + 1) rows lv).map V.str)) → Q (.ref D) H'
def strsOf {R : Type} (w : Str) (ps : List (Pt R)) : Nat → List Str
  | 0 => []
  | k + 1 => rowWs w (ps.take k)
section
variable {P : Program} {w : World} {K : PySem.W.Frag} {mg : Str → Option Value} {base : Heap}
theorem ok_llines {k0 d : Nat} {f : Addr} {fd : FuncData} (F : FnP K "_law_lines" "_law_lines" s__law_lines f fd) (T : Tx w K mg) (h1 : 1 ≤ k0) (G__law_lists : Def P w K mg base CX0 1 "_law_lists" p__law_lists (spLLists K d)) (G__law_lines : Def P w K mg base CX0 k0 "_law_lines" p__law_lines (spLLines K d)) : FnOk P w K mg base CX0 (k0 + 1) f fd p__law_lines (spLLines K (d + 1)) := by
  refine F.ok sc__law_lines (fun vs H Q E h => ?_) (fun cdv A outer s H vs Q E hr h => ?_)
  · obtain ⟨a, lv, _, _, _, _, _, rfl, _⟩ := h
    rfl
  · obtain ⟨a, lv, H0, rows, xs, kt, il, rfl, ha, S0, rx, g, sz, llv, k⟩ := h
    refine ⟨_, PSs.nox (pss_cons (ps_set (i := 2) sc__law_lines.nd rfl (.inl rfl) (pe_lst pa_nil))
      (pss_cons (ps_for PassesOwn.never rfl (pi_list (pv 0)) (pg_name (i := 3) sc__law_lines.nd rfl (.inl rfl)) (pss_cons (ps_set (i := 4) sc__law_lines.nd rfl (.inl rfl) (pe_op op_rpt pe_str (pv 1)))
      (pss_cons (ps_setLc (i := 5) (own := [("_law_part", 6)]) (g := (gName 6)) (by rfl) sc__law_lines.nd rfl rfl (sw_true rfl rfl rfl (by decide +kernel)) (pi_list (pe_fn G__law_lists (hr.mono (by omega)) (by rfl) pass0 (pa_cons (pv 3) pa_nil))) (blkOk_by (N := n__law_lines) (sc := defScope s__law_lines) (by decide +kernel)) (fun _ _ _ _ _ => (pg_name (i := 6) sc__law_lines.nd rfl (.inl rfl))) (fun _ _ _ _ _ => pts_nil) (fun _ _ _ _ _ => (pe_fn G__law_lines (hr.mono (by omega)) (by rfl) pass0 (pa_cons (pv 6) (pa_cons (pe_op op_add (pv 1) pe_int) pa_nil)))))
      (pss_one (ps_if (pt_cmpR op_eq (pe_ix ix_tup (pv 3) pe_int (fun _ _ => rfl)) pe_str (nomark _)) (pss_one (ps_expr (pe_bm PySem.F.plainAttrs_list PySem.F.slot_list_append PySem.F.type_list_append mt_append (pv 2) (pa_cons (pe_op op_add_str (pe_op op_add_str (pe_op op_add_str (pe_op op_add_str (pv 4) pe_str) (pe_join pe_str (pe_callTy call_list_of (by rfl) T.b_list (by decide +kernel) (pa_cons (pe_ix ix_tup (pv 3) pe_int (fun _ _ => rfl)) pa_nil)))) pe_str) (pe_ix ix_tup (pv 3) pe_int (fun _ _ => rfl))) pa_nil)))) (pss_one (ps_if (pt_cmpR op_eq (pe_ix ix_tup (pv 3) pe_int (fun _ _ => rfl)) pe_str (nomark _)) (pss_one (ps_expr (pe_bm PySem.F.plainAttrs_list PySem.F.slot_list_append PySem.F.type_list_append mt_append (pv 2) (pa_cons (pe_op op_add_str (pe_op op_add_str (pe_op op_add_str (pe_op op_add_str (pv 4) pe_str) (pe_ix ix_tup (pv 3) pe_int (fun _ _ => rfl))) pe_str) (pe_join pe_str (pe_callTy call_list_of (by rfl) T.b_list (by decide +kernel) (pa_cons (pe_ix ix_tup (pv 3) pe_int (fun _ _ => rfl)) pa_nil)))) pa_nil)))) (pss_one (ps_if (pt_cmpR op_eq (pe_ix ix_tup (pv 3) pe_int (fun _ _ => rfl)) pe_str (nomark _)) (pss_cons (ps_expr (pe_bm PySem.F.plainAttrs_list PySem.F.slot_list_append PySem.F.type_list_append mt_append (pv 2) (pa_cons (pe_op op_add_str (pv 4) pe_str) pa_nil)))
      (pss_one (ps_for PassesOwn.never rfl (pi_tup (pe_ix ix_tup (pv 3) pe_int (fun _ _ => rfl))) (pg_name (i := 6) sc__law_lines.nd rfl (.inl rfl)) (pss_one (ps_set (i := 2) sc__law_lines.nd rfl (.inl rfl) (pe_op op_cat (pe_op op_cat (pv 2) (pe_lst (pa_cons (pe_op op_add_str (pv 4) pe_str) pa_nil))) (pe_fn G__law_lines (hr.mono (by omega)) (by rfl) pass0 (pa_cons (pv 6) (pa_cons (pe_op op_add (pv 1) pe_int) pa_nil))))))))) (pss_cons (ps_expr (pe_bm PySem.F.plainAttrs_list PySem.F.slot_list_append PySem.F.type_list_append mt_append (pv 2) (pa_cons (pe_op op_add_str (pv 4) (pe_join pe_str (pe_lc (own := [("_law_part", 6)]) (g := (gName 6)) (by rfl) sc__law_lines.nd (pi_tup (pv 3)) (blkOk_by (N := n__law_lines) (sc := defScope s__law_lines) (by decide +kernel)) (fun _ _ _ _ _ => (pg_name (i := 6) sc__law_lines.nd rfl (.inl rfl))) (fun _ _ _ _ _ => (pts_one (pt_val (pe_callB (show CallR _ (.builtin "isinstance") (rIsi K) from call_isi) (by rfl) T.b_isinstance (by decide +kernel) (pa_cons (pv 6) (pa_cons (pe_bltn (v := .ty "str") (u := .type "str") (by rfl) T.b_str (by decide +kernel) rfl) pa_nil)))))) (fun _ _ _ _ _ => (pv 6))))) pa_nil)))
      (C8.pss_cut (ps_if (pt_cmpR op_gt (pe_callB call_len_seq (by rfl) T.b_len PySem.boot_len (pa_cons (pv 5) pa_nil)) pe_int (nomark _)) (pss_one (ps_set (i := 2) sc__law_lines.nd rfl (.inl rfl) (pe_op op_cat (pv 2) (pe_ix ix_list (pv 5) pe_int (fun _ _ => rfl))))) pss_nil)
      (pss_one (ps_if (pt_cmpR op_gt (pe_callB call_len_seq (by rfl) T.b_len PySem.boot_len (pa_cons (pv 5) pa_nil)) pe_int (nomark _)) (pss_one (ps_set (i := 2) sc__law_lines.nd rfl (.inl rfl) (pe_op op_cat (pe_op op_cat (pv 2) (pe_lst (pa_cons (pe_op op_add_str (pv 4) (pe_ix ix_list (pe_lst (pa_cons pe_str (pa_cons pe_str pa_nil))) (pe_callTy call_int1 (by rfl) T.b_int (by decide +kernel) (pa_cons (pe_cmpR op_eq (pe_ix ix_tup (pv 3) pe_int (fun _ _ => rfl)) pe_str (nomark _)) pa_nil)) (fun _ _ => rfl))) pa_nil))) (pe_ix ix_list (pv 5) pe_int (fun _ _ => rfl))))) pss_nil)))))))))))))
      (pss_one (ps_ret (pv 2))))), ?_⟩
    have lrows := lsz_len (d := d + 1) (by omega) rows
    refine ⟨by show 0 ≤ sizeLine; decide, fun D nD => ?_⟩
    have S1 : Same H (upd H D (.lst [])) := Same.new nD
    have hD : upd H D (.lst []) D = some (.lst []) := upd_same
    generalize upd H D (.lst []) = H1 at S1 hD ⊢
    have lx := rx.len
    refine ⟨_, rfl, a, rfl, ⟨_, SqL.of (S1 _ _ (S0 _ _ ha))⟩, ?_⟩
    refine for_it (walk_list (K := K) (a := a) (xs := xs)) (fun i σ' H' => ∃ (D : Addr) (x3 x4 x5 x6 : Option V), σ' = [some (.ref a), some (.int lv), some (.ref D), x3, x4, x5, x6] ∧ Same H H' ∧ H D = none ∧ H' D = some (.lst ((lineL (d + 1) (rows.take i) lv).map V.str)))
      ⟨D, none, none, none, none, rfl, S1, nD, hD⟩ (fun i σ' H' _ q => ?_) (fun i x σ' H3 H4 hi q y => ?_) (fun σ' H3 q => ?_)
    · obtain ⟨_, _, _, _, _, _, S, _⟩ := q
      exact SqL.of (S _ _ (S0 _ _ ha))
    · obtain ⟨D, x3, x4, x5, x6, rfl, S4, nD, hx⟩ := q
      obtain ⟨rfl, hxi⟩ := y
      obtain ⟨r, hr', hrow⟩ := rx.other hxi
      have rm : r ∈ rows := List.mem_of_getElem? hr'
      have gr := g r rm
      have S04 : Same H0 H4 := S0.trans S4
      have e1 : lineL (d + 1) (rows.take (i + 1)) lv = lineL (d + 1) (rows.take i) lv ++ ((rpt "  " lv ++ Txt.join " " (rowWs r.1 r.2)) :: innerLs (lineL d) r.1 lv 0 (kids r.2)) := by
        rw [take_more hr', lineL_app, lineL_one]
      have bd := (lineL_bd (kt := kt) (d + 1) il (rows.take (i + 1)) (fun x hx => g x (List.mem_of_mem_take hx)) lv).2
      have tk : lsz (d + 1) (rows.take (i + 1)) ≤ lsz (d + 1) rows := by
        conv => rhs; rw [← List.take_append_drop (i + 1) rows]
        rw [lsz_app]
        omega
      rw [e1, List.length_append, List.length_cons] at bd
      have k12 := (lo_kids gr.1).2.1
      have hl := head_len gr.1
      have rl := rsz_le rm
      generalize hpr : lineL (d + 1) (rows.take i) lv = pr at e1 bd hx
      refine ⟨_, rfl, "  ", lv, rfl, rfl, by decide +kernel, by decide +kernel, by omega, ?_⟩
      refine ⟨_, rfl, x, r, H0, rfl, S04, hrow, ⟨kt, il, gr.1⟩, fun H5 L Ls S45 nL hL hls => ?_⟩
      have hx5 := S45 _ _ hx
      have DL : D ≠ L := ne_of_none hx nL
      refine ⟨L, rfl, ⟨_, SqL.of hL⟩, fun X nX => ?_⟩
      have XD : X ≠ D := (ne_of_none hx5 nX).symm
      have XL : X ≠ L := (ne_of_none hL nX).symm
      refine lc_it (walk_list (K := K) (a := L) (xs := Ls)) (fun j H' => Kp (· = X) H5 H' ∧ ∃ ys, H' X = some (.lst ys) ∧ All2 (fun l v => ∃ q, v = V.ref q ∧ q ≠ X ∧ q ≠ D ∧ H' q = some (.lst ((lineL d l (lv + 1)).map V.str))) ((kids r.2).take j) ys)
        ⟨Kp.of (Same.new nX), [], upd_same, .nil⟩ (fun j H' _ q => SqL.of (q.1 _ _ hL XL.symm)) (fun j y1 H6 H7 hj q y => ?_) (fun H6 q => ?_)
      · obtain ⟨rfl, hy⟩ := y
        obtain ⟨kp, ys, hX, hys⟩ := q
        obtain ⟨l, hlk, b, zs, rfl, hb, hbs⟩ := hls.other hy
        have lm : l ∈ kids r.2 := List.mem_of_getElem? hlk
        have d1 : 1 ≤ d := gr.2.1 fun z => by rw [z] at lm; cases lm
        obtain ⟨e, rfl⟩ : ∃ e, d = e + 1 := ⟨d - 1, by omega⟩
        have gl := gr.2.2 l lm
        have lsz' : lsz (e + 1) l ≤ 60 := by
          have e1 : rsz (e + 1 + 1) r = 1 + ((kids r.2).map (lsz (e + 1))).sum := rfl
          have e2 : lsz (e + 1) l ≤ ((kids r.2).map (lsz (e + 1))).sum := le_sumN (List.mem_map.mpr ⟨l, lm, rfl⟩)
          omega
        have S07 : Same H0 H7 := Kp.base (S04.trans S45) kp fun c z => by subst z; exact (S04.trans S45).free nX
        refine ⟨rfl, ?_⟩
        refine tYes_ ?_
        refine iteT ?_
        refine ⟨_, rfl, _, rfl, _, _, rfl, rfl, b, lv + 1, H0, l, zs, kt, _, by rw [show ((lv + 1 : Nat) : Int) = (lv : Int) + 1 by omega]; rfl, hb, S07, hbs, gl, lsz', by omega, fun H8 L2 S78 nL2 hL2 => ?_⟩
        have hX8 := S78 _ _ hX
        have XL2 : L2 ≠ X := (ne_of_none hX nL2).symm
        have ly := hys.len
        rw [List.length_take] at ly
        refine ⟨ys, hX8, small1000 (by omega), (kp.trans (Kp.of S78)).trans (Kp.put rfl), ys ++ [.ref L2], upd_same, ?_⟩
        rw [take_more hlk]
        refine (hys.imp fun _ _ _ q => ?_).app (.one ⟨L2, rfl, XL2, (ne_of_none (kp _ _ hx5 XD.symm) nL2).symm, by rw [upd_ne XL2]; exact hL2⟩)
        obtain ⟨q0, e0, n0, n1, h0⟩ := q
        exact ⟨q0, e0, n0, n1, by rw [upd_ne n0]; exact S78 _ _ h0⟩
      · obtain ⟨kp, ys, hX, hys⟩ := q
        rw [← hls.len, List.take_length] at hys
        have S06 : Same H0 H6 := Kp.base (S04.trans S45) kp fun c z => by subst z; exact (S04.trans S45).free nX
        have SH6 : Same H H6 := Kp.base (S4.trans S45) kp fun c z => by subst z; exact (S4.trans S45).free nX
        have hx6 : H6 D = some (.lst (pr.map V.str)) := kp _ _ hx5 XD.symm
        obtain ⟨wd, ps⟩ := r
        obtain ⟨ra, vs, rfl, hra, hp⟩ := hrow
        dsimp only at hra hp hys bd e1 hl k12
        have lo := gr.1
        dsimp only at lo
        have w8 := (rowWs_len lo).2
        have w13 := (rowWs_len lo).1
        have sp1 : (" " : Str).length = 1 := by decide +kernel
        have jnl : ∀ zs : List Str, zs.length ≤ 13 → (∀ z ∈ zs, z.length ≤ 8) → (Txt.join " " zs).length ≤ 117 ∧ (zs.map (·.length)).sum + zs.length * (" " : Str).length ≤ 16777216 := fun zs h1 h2 => by
          have a1 := jn_len (s := " ") zs
          have a2 := sum_le (f := fun z : Str => z.length + (" " : Str).length) (c := 9) zs fun z hz => by have := h2 z hz; rw [sp1]; omega
          have a3 := sum_le (f := fun z : Str => z.length) (c := 8) zs h2
          rw [sp1]
          omega
        have upS : ∀ {Hx : Hp} {o : HO}, Same H Hx → Same H (upd Hx D o) := fun {Hx o} S b u e => by rw [upd_ne (ne_of_none e nD)]; exact S _ _ e
        refine ⟨_, rfl, ra, _, 0, .str wd, rfl, rfl, sameT S06 hra, at0, rfl, _, rfl, ?_⟩
        by_cases c_first : wd = "first"
        · refine iteT' (decide_eq_true (by rw [c_first])) ?_
          subst c_first
          obtain ⟨zs, so, rfl, lne, l3⟩ := first_ps lo
          cases hp with
          | cons h1 hp =>
          cases hp with
          | cons h2 hp =>
          cases hp
          obtain ⟨q, rfl, hq⟩ := h1
          cases h2
          have zw : ∀ z ∈ zs, z.length ≤ 8 := fun z hz => w8 z (by simp [rowWs, wordsP, hz])
          have so8 : so.length ≤ 8 := w8 so (by simp [rowWs, wordsP])
          obtain ⟨j1, j2⟩ := jnl zs (by omega) zw
          have f6 : ("first " : Str).length = 6 := by decide +kernel
          refine ⟨_, rfl, .inl ⟨rfl, _, SqL.of hx6⟩, _, rfl, _, _, rfl, rfl, by rw [rpt2_len, f6, sizeLine_eq]; omega, ?_⟩
          refine ⟨⟨_, rfl⟩, _, rfl, ra, _, 1, .ref q, rfl, rfl, sameT S06 hra, at1, q, _, rfl, .inr (sameT S06 hq), fun L2 nL2 => ?_⟩
          have S7 : Same H6 (upd H6 L2 (.lst (zs.map V.str))) := Same.new nL2
          have hL2 : upd H6 L2 (.lst (zs.map V.str)) L2 = some (.lst (zs.map V.str)) := upd_same
          generalize upd H6 L2 (.lst (zs.map V.str)) = H7 at S7 hL2 ⊢
          refine ⟨" ", L2, zs, rfl, rfl, .inl (SqL.of hL2), j2, ?_⟩
          refine ⟨_, _, rfl, rfl, by rw [len_app, rpt2_len, f6, sizeLine_eq]; omega, ?_⟩
          refine ⟨_, _, rfl, rfl, by rw [len_app, len_app, rpt2_len, f6, sp1, sizeLine_eq]; omega, ?_⟩
          refine ⟨_, rfl, ra, _, 2, .str so, rfl, rfl, sameT (S06.trans S7) hra, atI_nat rfl, _, _, rfl, rfl, by rw [len_app, len_app, len_app, rpt2_len, f6, sp1, sizeLine_eq]; omega, ?_⟩
          refine ⟨D, _, _, rfl, rfl, S7 _ _ hx6, small1000 (by rw [List.length_map]; omega), ?_⟩
          rw [first_line (R := Row d) lne]
          refine ⟨D, _, _, _, _, rfl, upS (SH6.trans S7), nD, ?_⟩
          rw [upd_same, e1, List.map_append]
          rfl
        refine iteF' (decide_eq_false fun z => c_first (V.str.inj z)) ?_
        refine ⟨_, rfl, ra, _, 0, .str wd, rfl, rfl, sameT S06 hra, at0, rfl, _, rfl, ?_⟩
        by_cases c_note : wd = "note"
        · refine iteT' (decide_eq_true (by rw [c_note])) ?_
          subst c_note
          obtain ⟨so, zs, rfl, lne, l3⟩ := note_ps lo
          cases hp with
          | cons h1 hp =>
          cases hp with
          | cons h2 hp =>
          cases hp
          obtain ⟨q, rfl, hq⟩ := h2
          cases h1
          have zw : ∀ z ∈ zs, z.length ≤ 8 := fun z hz => w8 z (by simp [rowWs, wordsP, hz])
          have so8 : so.length ≤ 8 := w8 so (by simp [rowWs, wordsP])
          obtain ⟨j1, j2⟩ := jnl zs (by omega) zw
          have f5 : ("note " : Str).length = 5 := by decide +kernel
          refine ⟨_, rfl, .inl ⟨rfl, _, SqL.of hx6⟩, _, rfl, _, _, rfl, rfl, by rw [rpt2_len, f5, sizeLine_eq]; omega, ?_⟩
          refine ⟨_, rfl, ra, _, 1, .str so, rfl, rfl, sameT S06 hra, at1, _, _, rfl, rfl, by rw [len_app, rpt2_len, f5, sizeLine_eq]; omega, ?_⟩
          refine ⟨_, _, rfl, rfl, by rw [len_app, len_app, rpt2_len, f5, sp1, sizeLine_eq]; omega, ?_⟩
          refine ⟨⟨_, rfl⟩, _, rfl, ra, _, 2, .ref q, rfl, rfl, sameT S06 hra, atI_nat rfl, q, _, rfl, .inr (sameT S06 hq), fun L2 nL2 => ?_⟩
          have S7 : Same H6 (upd H6 L2 (.lst (zs.map V.str))) := Same.new nL2
          have hL2 : upd H6 L2 (.lst (zs.map V.str)) L2 = some (.lst (zs.map V.str)) := upd_same
          generalize upd H6 L2 (.lst (zs.map V.str)) = H7 at S7 hL2 ⊢
          refine ⟨" ", L2, zs, rfl, rfl, .inl (SqL.of hL2), j2, ?_⟩
          refine ⟨_, _, rfl, rfl, by rw [len_app, len_app, len_app, rpt2_len, f5, sp1, sizeLine_eq]; omega, ?_⟩
          refine ⟨D, _, _, rfl, rfl, S7 _ _ hx6, small1000 (by rw [List.length_map]; omega), ?_⟩
          rw [note_line (R := Row d) lne]
          refine ⟨D, _, _, _, _, rfl, upS (SH6.trans S7), nD, ?_⟩
          rw [upd_same, e1, List.map_append]
          rfl
        refine iteF' (decide_eq_false fun z => c_note (V.str.inj z)) ?_
        refine ⟨_, rfl, ra, _, 0, .str wd, rfl, rfl, sameT S06 hra, at0, rfl, _, rfl, ?_⟩
        by_cases c_both : wd = "both"
        · refine iteT' (decide_eq_true (by rw [c_both])) ?_
          subst c_both
          obtain ⟨ls, rfl, ek⟩ := lo_both lo
          cases hp with
          | cons h1 hp =>
          cases hp
          obtain ⟨q, us, rfl, hq, hus⟩ := h1
          have f4 : ("both" : Str).length = 4 := by decide +kernel
          have f6 : ("  side" : Str).length = 6 := by decide +kernel
          rw [ek] at bd e1
          refine ⟨_, rfl, .inl ⟨rfl, _, SqL.of hx6⟩, _, rfl, _, _, rfl, rfl, by rw [rpt2_len, f4, sizeLine_eq]; omega, D, _, _, rfl, rfl, hx6, small1000 (by rw [List.length_map]; omega), ?_⟩
          rw [both_line (ls := ls)]
          generalize hln : rpt "  " lv ++ Txt.join " " (rowWs "both" [Pt.sides ls]) = ln at e1 ⊢
          have SH7 : Same H (upd H6 D (.lst (pr.map V.str ++ [.str ln]))) := upS SH6
          have hx7 : upd H6 D (.lst (pr.map V.str ++ [.str ln])) D = some (.lst ((pr ++ [ln]).map V.str)) := by rw [upd_same, List.map_append]; rfl
          generalize upd H6 D (.lst (pr.map V.str ++ [.str ln])) = H7 at SH7 hx7 ⊢
          have lus := hus.len
          refine ⟨_, rfl, ra, _, 1, .ref q, rfl, rfl, sameT (S0.trans SH7) hra, at1, q, rfl, ⟨_, sameT (S0.trans SH7) hq⟩, ?_⟩
          refine for_it (walk_tup (K := K) (a := q) (xs := us)) (fun j σ' H' => ∃ (D' : Addr) (x6 : Option V), σ' = [some (.ref a), some (.int lv), some (.ref D'), some (.ref ra), some (.str (rpt "  " lv)), some (.ref X), x6] ∧ Same H H' ∧ H D' = none ∧ H' D' = some (.lst (((pr ++ [ln]) ++ innerLs (lineL d) "both" lv 0 (ls.take j)).map V.str)))
            ⟨D, _, rfl, SH7, nD, by rw [List.take_zero]; simpa [innerLs] using hx7⟩ (fun j σ' H' _ q' => ?_) (fun j y1 σ' H8 H9 hj q' y => ?_) (fun σ' H8 q' => ?_)
          · obtain ⟨_, _, _, S, _⟩ := q'
            exact sameT (S0.trans S) hq
          · obtain ⟨D', x6, rfl, S8, nD', hx8⟩ := q'
            obtain ⟨rfl, hy⟩ := y
            obtain ⟨l, hlk, b, zs, rfl, hb, hbs⟩ := hus.other hy
            have lm : l ∈ kids [Pt.sides ls] := by rw [ek]; exact List.mem_of_getElem? hlk
            have d1 : 1 ≤ d := gr.2.1 fun z => by
              have z : kids [Pt.sides ls] = [] := z
              rw [z] at lm; cases lm
            obtain ⟨e, rfl⟩ : ∃ e, d = e + 1 := ⟨d - 1, by omega⟩
            have gl := gr.2.2 l lm
            have lsz' : lsz (e + 1) l ≤ 60 := by
              have e1 : rsz (e + 1 + 1) (("both", [Pt.sides ls]) : Str × List (Pt (Row (e + 1)))) = 1 + ((kids [Pt.sides ls]).map (lsz (e + 1))).sum := rfl
              have e2 : lsz (e + 1) l ≤ ((kids [Pt.sides ls]).map (lsz (e + 1))).sum := le_sumN (List.mem_map.mpr ⟨l, lm, rfl⟩)
              have rl' : rsz (e + 1 + 1) (("both", [Pt.sides ls]) : Str × List (Pt (Row (e + 1)))) ≤ lsz (e + 1 + 1) rows := rl
              omega
            have bs := inner_sub (f := lineL (e + 1)) (w := "both") (lv := lv) ls (j + 1)
            have jlt : j < ls.length := (List.getElem?_eq_some_iff.mp hlk).1
            have ei : innerLs (lineL (e + 1)) "both" lv 0 (ls.take (j + 1)) = innerLs (lineL (e + 1)) "both" lv 0 (ls.take j) ++ ((rpt "  " lv ++ "  side") :: lineL (e + 1) l (lv + 2)) := by
              rw [take_more hlk, innerLs_app, List.length_take, Nat.min_eq_left (Nat.le_of_lt jlt), Nat.zero_add, side_line]
              show _ ++ ((if ("both" : Str) = "both" then _ else _) ++ []) = _
              rw [if_pos rfl, List.append_nil]
            rw [ei, List.length_append, List.length_cons] at bs
            generalize innerLs (lineL (e + 1)) "both" lv 0 (ls.take j) = pj at hx8 bs ei
            refine ⟨_, rfl, _, rfl, _, _, rfl, rfl, by rw [rpt2_len, f6, sizeLine_eq]; omega, by show 1 ≤ sizeLine; decide, fun L3 nL3 => ?_⟩
            generalize rpt "  " lv ++ "  side" = sl at ei ⊢
            have S9 : Same H9 (upd H9 L3 (.lst [.str sl])) := Same.new nL3
            have h9 : upd H9 L3 (.lst [.str sl]) L3 = some (.lst [.str sl]) := upd_same
            generalize upd H9 L3 (.lst [.str sl]) = H10 at S9 h9 ⊢
            refine ⟨D', L3, _, _, rfl, rfl, S9 _ _ hx8, h9, by rw [List.length_map, List.length_append, List.length_append, sizeLine_eq]; show _ + 1 + _ + 1 ≤ _; omega, fun L4 nL4 => ?_⟩
            have e4 : (((pr ++ [ln]) ++ pj).map V.str ++ [V.str sl]) = (((pr ++ [ln]) ++ pj) ++ [sl]).map V.str := by simp
            rw [e4]
            have S10 : Same H10 (upd H10 L4 (.lst ((((pr ++ [ln]) ++ pj) ++ [sl]).map V.str))) := Same.new nL4
            have h10 : upd H10 L4 (.lst ((((pr ++ [ln]) ++ pj) ++ [sl]).map V.str)) L4 = some (.lst ((((pr ++ [ln]) ++ pj) ++ [sl]).map V.str)) := upd_same
            generalize upd H10 L4 (.lst ((((pr ++ [ln]) ++ pj) ++ [sl]).map V.str)) = H11 at S10 h10 ⊢
            have SH11 := (S8.trans S9).trans S10
            refine ⟨_, rfl, _, rfl, _, _, rfl, rfl, b, lv + 2, H0, l, zs, kt, _, by rw [show ((lv + 2 : Nat) : Int) = (lv : Int) + 2 by omega]; rfl, hb, S0.trans SH11, hbs, gl, lsz', by omega, fun H12 L5 S11 nL5 hL5 => ?_⟩
            refine ⟨L4, L5, _, _, rfl, rfl, S11 _ _ h10, hL5, by rw [List.length_map, List.length_map, List.length_append, List.length_append, List.length_append, sizeLine_eq]; show _ + 1 + _ + 1 + _ ≤ _; omega, fun L6 nL6 => ?_⟩
            have SH12 := SH11.trans S11
            refine ⟨L6, _, rfl, SH12.trans (Same.new nL6), SH12.free nL6, ?_⟩
            rw [upd_same, ei, ← List.map_append]
            simp only [List.append_assoc, List.cons_append, List.nil_append]
          · obtain ⟨D', x6, rfl, S8, nD', hx8⟩ := q'
            rw [← lus, List.take_length] at hx8
            refine ⟨D', _, _, _, _, rfl, S8, nD', ?_⟩
            rw [hx8, e1]
            simp only [List.append_assoc, List.cons_append, List.nil_append]
        refine iteF' (decide_eq_false fun z => c_both (V.str.inj z)) ?_
        have nw := no_words lo c_first c_note
        have nsd := lo_none lo c_both
        refine ⟨_, rfl, .inl ⟨rfl, _, SqL.of hx6⟩, ?_⟩
        refine ⟨_, rfl, ⟨_, rfl⟩, _, rfl, ra, rfl, ⟨_, sameT S06 hra⟩, fun Y nY => ?_⟩
        refine lc_it (walk_tup (K := K) (a := ra) (xs := .str wd :: vs)) (fun j H' => Same H6 H' ∧ H' Y = some (.lst ((strsOf wd ps j).map V.str))) ⟨Same.new nY, upd_same⟩ (fun j H' _ q => sameT (S06.trans q.1) hra) (fun j y1 H7 H8 hj q y => ?_) (fun H7 q => ?_)
        · obtain ⟨rfl, hy⟩ := y
          obtain ⟨S67, hY⟩ := q
          refine ⟨rfl, ?_⟩
          cases j with
          | zero =>
            cases Option.some.inj hy
            refine ⟨_, rfl, .str wd, .ty "str", _, _, true, rfl, .ty _, .base (.str wd), kit_ty (by decide +kernel), _, rfl, ?_⟩
            refine iteT ?_
            refine ⟨_, rfl, _, hY, small1000 (by show 0 ≤ 1000; decide), fun c o hc => by rw [upd_ne (ne_of_none hc nY)]; exact S67 _ _ hc, ?_⟩
            rw [upd_same]
            rfl
          | succ j =>
            have hj' : vs[j]? = some y1 := hy
            obtain ⟨p, hpj, hpt⟩ := hp.other hj'
            have hm := List.mem_of_getElem? hpj
            have es : strsOf wd ps (j + 1 + 1) = strsOf wd ps (j + 1) ++ wordsP p := by
              show rowWs wd (ps.take (j + 1)) = rowWs wd (ps.take j) ++ wordsP p
              unfold rowWs
              rw [take_more hpj, List.map_append, List.flatten_append]
              simp
            have ll : (strsOf wd ps (j + 1)).length ≤ 13 := by
              have l1 : (rowWs wd (ps.take j)).length ≤ (rowWs wd ps).length := by
                unfold rowWs
                conv => rhs; rw [← List.take_append_drop j ps]
                rw [List.map_append, List.flatten_append, List.length_cons, List.length_cons, List.length_append]
                omega
              exact Nat.le_trans l1 w13
            cases p with
            | word z =>
              have hpt : y1 = .str z := hpt
              subst hpt
              refine ⟨_, rfl, .str z, .ty "str", _, _, true, rfl, .ty _, .base (.str z), kit_ty (by decide +kernel), _, rfl, ?_⟩
              refine iteT ?_
              refine ⟨_, rfl, _, hY, small1000 (by rw [List.length_map]; omega), fun c o hc => by rw [upd_ne (ne_of_none hc nY)]; exact S67 _ _ hc, ?_⟩
              rw [upd_same, es, List.map_append]
              rfl
            | words l => exact absurd rfl (nw _ hm l)
            | rows l =>
              obtain ⟨q, zs, rfl, hq, hl2⟩ := id hpt
              refine ⟨_, rfl, .ref q, .ty "str", _, _, false, rfl, .ty _, tyL (SqL.of (S67 _ _ (S06 _ _ hq))), kit_ty (by decide +kernel), _, rfl, ?_⟩
              refine iteF ?_
              refine ⟨S67, ?_⟩
              rw [es, show wordsP (Pt.rows l) = [] from rfl, List.append_nil]
              exact hY
            | sides l => exact absurd rfl (nsd _ hm l)
        · obtain ⟨S67, hY⟩ := q
          have e13 : strsOf wd ps (V.str wd :: vs).length = rowWs wd ps := by
            rw [List.length_cons]
            show rowWs wd (ps.take vs.length) = _
            rw [← hp.len, List.take_length]
          rw [e13] at hY
          obtain ⟨j1, j2⟩ := jnl (rowWs wd ps) w13 w8
          refine ⟨" ", Y, rowWs wd ps, rfl, rfl, .inl (SqL.of hY), j2, ?_⟩
          refine ⟨_, _, rfl, rfl, by rw [rpt2_len, sizeLine_eq]; omega, ?_⟩
          refine ⟨D, _, _, rfl, rfl, S67 _ _ hx6, small1000 (by rw [List.length_map]; omega), ?_⟩
          generalize hln : rpt "  " lv ++ Txt.join " " (rowWs wd ps) = ln at e1 ⊢
          have SH8 : Same H (upd H7 D (.lst (pr.map V.str ++ [.str ln]))) := upS (SH6.trans S67)
          have hx8 : upd H7 D (.lst (pr.map V.str ++ [.str ln])) D = some (.lst ((pr ++ [ln]).map V.str)) := by rw [upd_same, List.map_append]; rfl
          have hX8 : upd H7 D (.lst (pr.map V.str ++ [.str ln])) X = some (.lst ys) := by rw [upd_ne XD]; exact S67 _ _ hX
          have hys8 : All2 (fun l v => ∃ q, v = V.ref q ∧ upd H7 D (.lst (pr.map V.str ++ [.str ln])) q = some (.lst ((lineL d l (lv + 1)).map V.str))) (kids ps) ys := hys.imp fun l v _ q => by
            obtain ⟨q0, e0, n0, n1, h0⟩ := q
            exact ⟨q0, e0, by rw [upd_ne n1]; exact S67 _ _ h0⟩
          generalize upd H7 D (.lst (pr.map V.str ++ [.str ln])) = H8 at SH8 hx8 hX8 hys8 ⊢
          have kle := kids_le2 lo c_both
          have ktw := kids_two lo c_both
          have inL : ∀ l ∈ kids ps, (lineL d l (lv + 1)).length ≤ 840 := fun l lm => by
            have a1 := (lineL_bd (kt := kt) d _ l (gr.2.2 l lm) (lv + 1)).2
            have e1 : rsz (d + 1) ((wd, ps) : Str × List (Pt (Row d))) = 1 + ((kids ps).map (lsz d)).sum := rfl
            have e2 : lsz d l ≤ ((kids ps).map (lsz d)).sum := le_sumN (List.mem_map.mpr ⟨l, lm, rfl⟩)
            have rl' : rsz (d + 1) ((wd, ps) : Str × List (Pt (Row d))) ≤ lsz (d + 1) rows := rl
            omega
          generalize hkk : kids ps = kk at hys8 kle ktw e1 bd inL
          cases hys8 with
          | nil =>
            refine ⟨fun σ' H' => σ' = [some (.ref a), some (.int lv), some (.ref D), some (.ref ra), some (.str (rpt "  " lv)), some (.ref X), x6] ∧ H' = H8, ?_, ?_⟩
            · refine ⟨_, rfl, X, _, rfl, .inl (SqL.of hX8), _, _, rfl, rfl, _, rfl, iteF' (by decide) ⟨rfl, rfl⟩⟩
            · rintro σ' H' ⟨rfl, rfl⟩
              refine ⟨_, rfl, X, _, rfl, .inl (SqL.of hX8), _, _, rfl, rfl, _, rfl, iteF' (by decide) ⟨D, _, _, _, _, rfl, SH8, nD, ?_⟩⟩
              rw [hx8, e1]
              rfl
          | cons h0 t =>
            rename_i l0 v0 kk vv
            obtain ⟨q0, rfl, hq0⟩ := h0
            have b0 := inL l0 List.mem_cons_self
            refine ⟨fun σ' H' => ∃ D', σ' = [some (.ref a), some (.int lv), some (.ref D'), some (.ref ra), some (.str (rpt "  " lv)), some (.ref X), x6] ∧ Same H8 H' ∧ H D' = none ∧ H' D' = some (.lst ((pr ++ [ln] ++ lineL d l0 (lv + 1)).map V.str)), ?_, ?_⟩
            · refine ⟨_, rfl, X, _, rfl, .inl (SqL.of hX8), _, _, rfl, rfl, _, rfl, iteT' (decide_eq_true (by rw [List.length_cons]; omega)) ?_⟩
              refine ⟨_, rfl, _, rfl, X, _, 0, .ref q0, rfl, rfl, SqL.of hX8, atI_nat rfl, ?_⟩
              refine ⟨D, q0, _, _, rfl, rfl, hx8, hq0, by rw [List.length_map, List.length_map, List.length_append, sizeLine_eq]; show _ + 1 + _ ≤ _; omega, fun D' nD' => ?_⟩
              exact ⟨D', rfl, Same.new nD', SH8.free nD', by rw [upd_same, ← List.map_append]⟩
            · rintro σ' H9 ⟨D', rfl, S89, nD', hD'⟩
              have hX9 := S89 _ _ hX8
              have SH9 := SH8.trans S89
              cases t with
              | nil =>
                refine ⟨_, rfl, X, _, rfl, .inl (SqL.of hX9), _, _, rfl, rfl, _, rfl, iteF' (decide_eq_false (by show ¬ ((1 : Int) < 1); omega)) ⟨D', _, _, _, _, rfl, SH9, nD', ?_⟩⟩
                rw [hD', e1]
                show _ = some (HO.lst ((pr ++ ln :: (((if wd = "both" then _ else ([] ++ lineL d l0 (lv + 1))) ++ []))).map V.str))
                rw [if_neg c_both]
                simp
              | cons h1 t =>
                rename_i l1 v1 kk vv
                obtain ⟨q1, rfl, hq1⟩ := h1
                have b1 := inL l1 (by simp)
                have tn : kk = [] ∧ vv = [] := by
                  cases t with
                  | nil => exact ⟨rfl, rfl⟩
                  | cons _ _ => rw [List.length_cons, List.length_cons, List.length_cons] at kle; omega
                obtain ⟨rfl, rfl⟩ := tn
                have wdd := ktw (by rw [List.length_cons, List.length_cons]; omega)
                have key : atI [V.str "else", .str "old"] (if decide (V.str wd = V.str "gate") = true then 1 else 0) = some (.str (divOf wd)) := by rcases wdd with e | e <;> subst e <;> rfl
                have dl := div_len wd
                refine ⟨_, rfl, X, _, rfl, .inl (SqL.of hX9), _, _, rfl, rfl, _, rfl, iteT' (decide_eq_true (by show (1 : Int) < 2; omega)) ?_⟩
                refine ⟨_, rfl, _, rfl, by show 2 ≤ sizeLine; decide, fun Z nZ => ?_⟩
                have S10 : Same H9 (upd H9 Z (.lst [.str "else", .str "old"])) := Same.new nZ
                have hZ : upd H9 Z (.lst [.str "else", .str "old"]) Z = some (.lst [.str "else", .str "old"]) := upd_same
                generalize upd H9 Z (.lst [.str "else", .str "old"]) = H10 at S10 hZ ⊢
                have SH10 := SH9.trans S10
                refine ⟨_, rfl, ra, _, 0, .str wd, rfl, rfl, sameT (S0.trans SH10) hra, at0, rfl, .inr ⟨_, rfl, ?_⟩⟩
                refine ⟨Z, _, _, _, rfl, rfl, SqL.of hZ, key, ?_⟩
                refine ⟨_, _, rfl, rfl, by rw [rpt2_len, sizeLine_eq]; omega, by show 1 ≤ sizeLine; decide, fun L3 nL3 => ?_⟩
                generalize hsl : rpt "  " lv ++ divOf wd = sl
                have S11 : Same H10 (upd H10 L3 (.lst [.str sl])) := Same.new nL3
                have h11 : upd H10 L3 (.lst [.str sl]) L3 = some (.lst [.str sl]) := upd_same
                generalize upd H10 L3 (.lst [.str sl]) = H11 at S11 h11 ⊢
                have S911 := S10.trans S11
                refine ⟨D', L3, _, _, rfl, rfl, S911 _ _ hD', h11, by rw [List.length_map, List.length_append, List.length_append, sizeLine_eq]; show _ + 1 + _ + 1 ≤ _; omega, fun L4 nL4 => ?_⟩
                have S12 : Same H11 (upd H11 L4 (.lst ((pr ++ [ln] ++ lineL d l0 (lv + 1)).map V.str ++ [.str sl]))) := Same.new nL4
                have h12 : upd H11 L4 (.lst ((pr ++ [ln] ++ lineL d l0 (lv + 1)).map V.str ++ [.str sl])) L4 = some (.lst ((pr ++ [ln] ++ lineL d l0 (lv + 1)).map V.str ++ [.str sl])) := upd_same
                generalize upd H11 L4 (.lst ((pr ++ [ln] ++ lineL d l0 (lv + 1)).map V.str ++ [.str sl])) = H12 at S12 h12 ⊢
                have S912 := S911.trans S12
                refine ⟨_, rfl, X, _, 1, .ref q1, rfl, rfl, SqL.of (S912 _ _ hX9), atI_nat rfl, ?_⟩
                refine ⟨L4, q1, _, _, rfl, rfl, h12, S912 _ _ (S89 _ _ hq1), by rw [List.length_append, List.length_map, List.length_map, List.length_append, List.length_append, sizeLine_eq]; show _ + 1 + _ + 1 + _ ≤ _; omega, fun D2 nD2 => ?_⟩
                refine ⟨D2, _, _, _, _, rfl, (SH9.trans S912).trans (Same.new nD2), (SH9.trans S912).free nD2, ?_⟩
                rw [upd_same, e1]
                show _ = some (HO.lst ((pr ++ ln :: ((if wd = "both" then _ else ([] ++ lineL d l0 (lv + 1))) ++ ((if wd = "both" then _ else ([rpt "  " lv ++ divOf wd] ++ lineL d l1 (lv + 1))) ++ []))).map V.str))
                rw [if_neg c_both, if_neg c_both, hsl]
                simp
    · obtain ⟨D, x3, x4, x5, x6, rfl, S3, nD, hx⟩ := q
      rw [← lx, List.take_length] at hx
      exact ⟨_, rfl, k H3 D S3 nD hx⟩
end
end OR

set_option Elab.async false
set_option maxRecDepth 100000
set_option maxHeartbeats 8000000
set_option linter.all false
namespace OR
open PySem PySem.Spec PyProof.Rows L2 TS2
/-- what the kit says of a program's class -/
structure IsP (K : PySem.W.Frag) : Prop where
  ha : PySem.W.findIn K (.ref (cP K)) "__class__" = some (some (.builtin "object.__class__"))
  hn : PySem.W.specialIn K (.builtin "object.__class__") "__get__" = some (some (.builtin "getset_descriptor.__get__"))
  ht : PySem.W.takesIn K (.builtin "object.__class__") = some true
  hm : PySem.W.mroIn K (cP K) (.type "object") = some true
  k1 : PySem.W.kitOne K (.ref (cP K)) (.ref (cP K)) = some true
def spText (K : PySem.W.Frag) : Sp := fun vs H Q _ => ∃ (p i : Addr) (TA : AT) (TS : ST) (na ns inp : List Str) (rows : List (Row 5)), vs = [.ref p] ∧ PgAt K H p (ATk TA) (STk TS) (.ref i) 5 rows ∧ (∀ x ∈ ATm TA ++ STm TS, H x.1 = some x.2) ∧ H i = some (.tup (inp.map V.str)) ∧ TxIs TA TS na ns inp rows ∧
  ∀ (H' : Hp) (ya ys : List Str), Same H H' → ya.Perm na → sortedS ya = true → ys.Perm ns → sortedS ys = true → Q (.str (textOf TA TS inp rows ya ys)) H'
theorem mapG {α β : Type} {f : α → β} {l : List α} {i : Nat} {y : β} (h : (l.map f)[i]? = some y) : ∃ x, l[i]? = some x ∧ y = f x := by
  rw [List.getElem?_map] at h
  cases e : l[i]? with
  | none => rw [e] at h; cases h
  | some x => rw [e] at h; exact ⟨x, rfl, (Option.some.inj h).symm⟩
section
variable {X : Cx} {K : PySem.W.Frag} {o e : Expr} {es : List Expr} {to te : TE} {t : TA}
def rJoinK (K : PySem.W.Frag) : V → List V → Hp → VK → Prop := fun x xs H Q => ∃ a p, ∃ ys : List Str, x = .str a ∧ xs = [.ref p] ∧ (SqL K H p (ys.map V.str) ∨ SqT K H p (ys.map V.str)) ∧
      (ys.map (·.length)).sum + ys.length * a.length ≤ 16777216 ∧ Q (.str (Txt.join a ys)) H
theorem pe_joinK {apos pos : Pos} (hK : X.K = K) (ho : PE X o to) (he : PE X e te) (hs : starEach [e] X.env = [(false, eval e X.env)] := by rfl) (hbase : attributeBase o "join" X.env (eval o X.env) = eval o X.env := by rfl) (hline : (apos.endLine == pos.line) = true := by rfl) :
    PE X (.Call (.Attribute o "join" apos) [e] [] pos) (tM1 (rJoinK K) to te) := by
  subst hK
  exact pe_join ho he hs hbase hline
theorem pa_starK {p : Pos} (hK : X.K = K) (he : PE X e te) (hr : PA X es t) (hs : starEach (.Starred e p :: es) X.env = (true, eval e X.env) :: starEach es X.env := by rfl) : PA X (.Starred e p :: es) (StX.tStar K te t) := by
  subst hK
  exact StX.pa_star he hr hs
end
theorem dg_of {H : Hp} {D : Addr} {kvs : List (Key × V)} {z : Str} {v : V} (h : H D = some (.dK kvs)) (e : valV kvs (Sum.inr z : Key) = some v) : DGet H D (.str z) (some v) := by
  rw [← e]
  exact DGet.k (k := .inr z) h
section
variable {P : Program} {w : World} {K : PySem.W.Frag} {mg : Str → Option Value} {base : Heap}
theorem ok_text {k0 : Nat} {f : Addr} {fd : FuncData} (F : FnP K "program_text" "program_text" s_program_text f fd) (T : Tx w K mg) (X : IsP K) (h1 : 1 ≤ k0)
    (M_rows : MDef P w K mg base CX0 k0 (cP K) "rows" p_Program_rows (spRows K 5)) (M_asks : MDef P w K mg base CX0 1 (cP K) "asks" p_Program_asks (spTab K true 5)) (M_signals : MDef P w K mg base CX0 1 (cP K) "signals" p_Program_signals (spTab K false 5)) (M_inputs : MDef P w K mg base CX0 1 (cP K) "inputs" p_Program_inputs (spInputs K 5))
    (G_lines_of : Def P w K mg base CX0 k0 "lines_of" p_lines_of (spLinesOf K 5)) : FnOk P w K mg base CX0 (k0 + 1) f fd p_program_text (spText K) := by
  refine F.ok sc_program_text (fun vs H Q E h => ?_) (fun cdv A outer s H vs Q E hr h => ?_)
  · obtain ⟨p, _, _, _, _, _, _, _, rfl, _⟩ := h
    rfl
  · obtain ⟨p, i, TA, TS, na, ns, inp, rows, rfl, pg, tm, hi, t, k⟩ := h
    have hu := hu_of hr
    refine ⟨_, PSs.nox (pss_cons (ps_if (pt_not (pt_val (pe_callB call_isi (by rfl) T.b_isinstance (by decide +kernel) (pa_cons (pv 0) (pa_cons (pe_ref (by rfl) T.m_Program) pa_nil))))) (pss_one ps_never) pss_nil)
      (pss_cons (ps_set (i := 1) sc_program_text.nd rfl (.inr rfl) (pe_mth0 M_asks (hr.mono (by omega)) pass0 (pv 0)))
      (pss_cons (ps_set (i := 2) sc_program_text.nd rfl (.inl rfl) (pe_mth0 M_signals (hr.mono (by omega)) pass0 (pv 0)))
      (pss_cons (ps_setLc (i := 3) (own := [("name", 4)]) (g := gName 4) (by rfl) sc_program_text.nd rfl rfl (sw_true rfl rfl rfl (by decide +kernel)) (pi_list (pe_callB (call_sortedD rfl) (by rfl) T.b_sorted (by decide +kernel) (pa_cons (pv 1) pa_nil))) (blkOk_by (N := n_program_text) (sc := defScope s_program_text) (by decide +kernel)) (fun _ _ _ _ _ => pg_name (i := 4) sc_program_text.nd rfl (.inl rfl)) (fun _ _ _ _ _ => pts_nil) (fun _ _ _ _ _ => (pe_joinK (K := K) rfl pe_str (pe_lst (pa_cons pe_str (pa_cons (pv 4) (pa_starK (K := K) rfl (pe_dget hu (pv 1) (pv 4) (fun _ _ => rfl)) pa_nil)))))))
      (pss_cons (ps_for PassesOwn.never rfl (pi_list (pe_callB (call_sortedD rfl) (by rfl) T.b_sorted (by decide +kernel) (pa_cons (pv 2) pa_nil))) (pg_name (i := 4) sc_program_text.nd rfl (.inl rfl)) (pss_cons (ps_asg (pe_dget hu (pv 2) (pv 4) (fun _ _ => rfl)) (pg_tup (by rfl) (pgs_cons (pg_name (i := 5) sc_program_text.nd rfl (.inl rfl)) (pgs_cons (pg_name (i := 6) sc_program_text.nd rfl (.inl rfl)) pgs_nil))))
      (pss_one (ps_expr (pe_bm PySem.F.plainAttrs_list PySem.F.slot_list_append PySem.F.type_list_append mt_append (pv 3) (pa_cons (pe_join pe_str (pe_lst (pa_cons pe_str (pa_cons (pv 4) (pa_cons (pe_callTy call_str_int (by rfl) T.b_str (by decide +kernel) (pa_cons (pv 5) pa_nil)) (StX.pa_star (pv 6) pa_nil)))))) pa_nil))))))
      (pss_cons (ps_expr (pe_bm PySem.F.plainAttrs_list PySem.F.slot_list_append PySem.F.type_list_append mt_append (pv 3) (pa_cons (pe_join pe_str (pe_lst (pa_cons pe_str (StX.pa_star (pe_mth0 M_inputs (hr.mono (by omega)) pass0 (pv 0)) pa_nil)))) pa_nil)))
      (pss_cons (ps_expr (pe_bm PySem.F.plainAttrs_list PySem.F.slot_list_append PySem.F.type_list_append mt_append (pv 3) (pa_cons pe_str pa_nil)))
      (pss_cons (ps_expr (pe_bm PySem.F.plainAttrs_list PySem.F.slot_list_extend PySem.F.type_list_extend mt_extend (pv 3) (pa_cons (pe_fn G_lines_of (hr.mono (by omega)) (by rfl) pass0 (pa_cons (pe_mth0 M_rows (hr.mono (by omega)) pass0 (pv 0)) (pa_cons pe_int pa_nil))) pa_nil)))
      (pss_one (ps_ret (pe_join pe_str (pv 3)))))))))))), ?_⟩
    have pOb : ∃ dx fs, H p = some (.ins (cP K) dx fs) ∧ fs.lookup ("rows" : Str) = none ∧ fs.lookup ("asks" : Str) = none ∧ fs.lookup ("signals" : Str) = none ∧ fs.lookup ("inputs" : Str) = none := by
      obtain ⟨Hr, dx, ⟨_, _, _, _, _, _, _, h0, _⟩, S⟩ := pg
      exact ⟨_, _, S _ _ h0, rfl, rfl, rfl, rfl⟩
    obtain ⟨dx, fs, hp, f1, f2, f3, f4⟩ := pOb
    refine ⟨_, rfl, .ref p, .ref (cP K), _, _, true, rfl, .own _, .base (.ins hp T.c_Program X.ha X.hn X.ht X.hm), X.k1, ?_⟩
    refine ⟨_, rfl, iteF ?_⟩
    refine ⟨_, rfl, p, dx, fs, rfl, hp, f2, p, _, _, _, rows, rfl, pg, fun H1 D1 S1 n1 hD1 => ?_⟩
    refine ⟨_, rfl, p, dx, fs, rfl, S1 _ _ hp, f3, p, _, _, _, rows, rfl, pg.same S1, fun H2 D2 S2 n2 hD2 => ?_⟩
    have S02 : Same H H2 := S1.trans S2
    have h12 : H2 D1 = some (.dK (ATk TA)) := S2 _ _ hD1
    have h22 : H2 D2 = some (.dK (STk TS)) := hD2
    clear hD1 hD2
    refine ⟨_, rfl, D1, _, na, rfl, .inl h12, atk_keys t.gA, by have := t.lA; omega, fun ya La pa sa nLa => ?_⟩
    have S3 : Same H2 (upd H2 La (.lst (ya.map V.str))) := Same.new nLa
    have hLa : upd H2 La (.lst (ya.map V.str)) La = some (.lst (ya.map V.str)) := upd_same
    generalize upd H2 La (.lst (ya.map V.str)) = H3 at S3 hLa ⊢
    have l6 : ya.length ≤ 6 := by have := t.lA; have := pa.length_eq; omega
    refine ⟨La, rfl, ⟨_, SqL.of hLa⟩, fun X0 nX => ?_⟩
    have XL : La ≠ X0 := ne_of_none hLa nX
    refine lc_it (walk_list (K := K) (a := La) (xs := ya.map V.str)) (fun j H' => Kp (· = X0) H3 H' ∧ H' X0 = some (.lst (((ya.take j).map fun z => askL (entA TA z)).map V.str)))
      ⟨Kp.of (Same.new nX), upd_same⟩ (fun j H' _ q => SqL.of (q.1 _ _ hLa XL)) (fun j y1 H6 H7 hj q y => ?_) (fun H6 q => ?_)
    · obtain ⟨rfl, hy⟩ := y
      obtain ⟨kp, hX⟩ := q
      obtain ⟨z, hz, rfl⟩ := mapG hy
      obtain ⟨e1, e2, e3⟩ := entA_in (T := TA) (z := z) (by rw [t.gA.n]; exact pa.mem_iff.mp (List.mem_of_getElem? hz))
      have S27 : Same H2 H7 := Kp.base S3 kp fun c e => by subst e; exact S3.free nX
      have hw := t.gA.w _ e1
      have al := ask_len (x := entA TA z) (by rw [e2]; exact t.wA _ (pa.mem_iff.mp (List.mem_of_getElem? hz))) hw
      refine ⟨rfl, ?_⟩
      refine tYes_ ?_
      refine iteT ?_
      have S07 := S02.trans S27
      have hT := S07 _ _ (tm _ (List.mem_append_left _ (List.mem_map.mpr ⟨_, e1, rfl⟩)))
      refine ⟨⟨_, rfl⟩, _, rfl, _, rfl, _, rfl, D1, _, rfl, dg_of (S27 _ _ h12) e3, _, _, rfl, .inl (SqT.of hT), ?_⟩
      show (V.str "ask" :: V.str z :: ((entA TA z).2.2.map V.str ++ [])).length ≤ sizeLine ∧ _
      rw [List.append_nil]
      have al1 := al.1
      refine ⟨by rw [sizeLine_eq]; simp only [List.length_cons, List.length_map] at al1 ⊢; omega, fun L nL => ?_⟩
      have hL : upd H7 L (.lst (V.str "ask" :: V.str z :: (entA TA z).2.2.map V.str)) L = some (.lst ((("ask" : Str) :: z :: (entA TA z).2.2).map V.str)) := upd_same
      have S8 : Same H7 (upd H7 L (.lst (V.str "ask" :: V.str z :: (entA TA z).2.2.map V.str))) := Same.new nL
      have LX : X0 ≠ L := ne_of_none hX nL
      have hX8 := S8 _ _ hX
      have kp8 := kp.trans (Kp.of (C := (· = X0)) S8)
      generalize upd H7 L (.lst (V.str "ask" :: V.str z :: (entA TA z).2.2.map V.str)) = H8 at hL S8 hX8 kp8 ⊢
      have jb := (jn_bd al.2.1).2
      rw [e2] at jb al1
      refine ⟨" ", L, ("ask" : Str) :: z :: (entA TA z).2.2, rfl, rfl, .inl (SqL.of hL), by omega, ?_⟩
      have ew : Txt.join " " (("ask" : Str) :: z :: (entA TA z).2.2) = askL (entA TA z) := by unfold askL; rw [e2]
      rw [ew]
      have lt : (ya.take j).length ≤ 6 := by rw [List.length_take]; omega
      refine ⟨_, hX8, by rw [sizeLine_eq, List.length_map, List.length_map]; omega, kp8.trans fun b o hb nb => by rw [upd_ne nb]; exact hb, ?_⟩
      rw [upd_same, take_more hz]
      simp
    · obtain ⟨kp, hX⟩ := q
      rw [List.length_map, List.take_length] at hX
      have S26 : Same H2 H6 := Kp.base S3 kp fun c e => by subst e; exact S3.free nX
      have h26 := S26 _ _ h22
      have S06 := S02.trans S26
      have n26 : H2 X0 = none := S3.free nX
      clear hLa XL nX nLa S3 kp
      refine ⟨_, rfl, D2, _, ns, rfl, .inl h26, stk_keys t.gS, by have := t.lS; omega, fun ys Ls ps ss nLs => ?_⟩
      have S7 : Same H6 (upd H6 Ls (.lst (ys.map V.str))) := Same.new nLs
      have hLs : upd H6 Ls (.lst (ys.map V.str)) Ls = some (.lst (ys.map V.str)) := upd_same
      generalize upd H6 Ls (.lst (ys.map V.str)) = H7 at S7 hLs ⊢
      have l3 : ys.length ≤ 3 := by have := t.lS; have := ps.length_eq; omega
      have hX7 := S7 _ _ hX
      have LX : Ls ≠ X0 := (ne_of_none hX nLs).symm
      refine ⟨Ls, rfl, ⟨_, SqL.of hLs⟩, ?_⟩
      refine for_it (walk_list (K := K) (a := Ls) (xs := ys.map V.str)) (fun j σ' H' => (∃ x4 x5 x6 : Option V, σ' = [some (.ref p), some (.ref D1), some (.ref D2), some (.ref X0), x4, x5, x6]) ∧ Kp (· = X0) H7 H' ∧ H' X0 = some (.lst ((ya.map (fun z => askL (entA TA z)) ++ (ys.take j).map (fun z => sigL (entS TS z))).map V.str)))
        ⟨⟨none, none, none, rfl⟩, Kp.refl _, by rw [List.take_zero, List.map_nil, List.append_nil]; exact hX7⟩ (fun j σ' H' _ q => SqL.of (q.2.1 _ _ hLs LX)) (fun j x σ' H8 H9 hj q y => ?_) (fun σ' H8 q => ?_)
      · obtain ⟨⟨x4, x5, x6, rfl⟩, kp, hX8⟩ := q
        obtain ⟨rfl, hy⟩ := y
        obtain ⟨z, hz, rfl⟩ := mapG hy
        obtain ⟨e1, e2, e3⟩ := entS_in (T := TS) (z := z) (by rw [t.gS.n]; exact ps.mem_iff.mp (List.mem_of_getElem? hz))
        have hw := t.gS.w _ e1
        have al := sig_len (x := entS TS z) (by rw [e2]; exact t.wS _ (ps.mem_iff.mp (List.mem_of_getElem? hz))) hw
        have S29 : Same H2 H9 := Kp.base (S26.trans S7) kp fun c e => by subst e; exact n26
        have S09 := S02.trans S29
        have hT := S09 _ _ (tm _ (List.mem_append_right _ (List.mem_append_left _ (List.mem_map.mpr ⟨_, e1, rfl⟩))))
        have hU := S09 _ _ (tm _ (List.mem_append_right _ (List.mem_append_right _ (List.mem_map.mpr ⟨_, e1, rfl⟩))))
        have hX9 : H9 X0 = some (.lst ((ya.map (fun z => askL (entA TA z)) ++ (ys.take j).map (fun z => sigL (entS TS z))).map V.str)) := hX8
        refine ⟨_, rfl, _, rfl, D2, _, rfl, dg_of (S29 _ _ h22) e3, ?_⟩
        refine ⟨_, _, rfl, SqT.of hT, rfl, _, _, rfl, _, _, rfl, rfl, ?_⟩
        refine ⟨_, rfl, .inl ⟨rfl, _, SqL.of hX9⟩, ?_⟩
        refine ⟨⟨_, rfl⟩, _, rfl, _, rfl, _, rfl, ?_, ?_⟩
        · have := hw.2.2
          have e : (((entS TS z).2.2.1 : Nat) : Int).natAbs = (entS TS z).2.2.1 := Int.natAbs_natCast _
          rw [e]
          exact Nat.lt_of_le_of_lt (Nat.log2_le_self _) (by omega)
        refine ⟨_, rfl, _, _, rfl, .inl (SqT.of hU), ?_⟩
        show (V.str "signal" :: V.str z :: V.str (Str.ofString (toString (((entS TS z).2.2.1 : Nat) : Int))) :: ((entS TS z).2.2.2.2.map V.str ++ [])).length ≤ sizeLine ∧ _
        rw [List.append_nil]
        have al1 := al.1
        refine ⟨by rw [sizeLine_eq]; simp only [List.length_cons, List.length_map] at al1 ⊢; omega, fun L nL => ?_⟩
        have hL : upd H9 L (.lst (V.str "signal" :: V.str z :: V.str (Str.ofString (toString (((entS TS z).2.2.1 : Nat) : Int))) :: (entS TS z).2.2.2.2.map V.str)) L = some (.lst ((("signal" : Str) :: z :: roomT (entS TS z).2.2.1 :: (entS TS z).2.2.2.2).map V.str)) := upd_same
        have S10 : Same H9 (upd H9 L (.lst (V.str "signal" :: V.str z :: V.str (Str.ofString (toString (((entS TS z).2.2.1 : Nat) : Int))) :: (entS TS z).2.2.2.2.map V.str))) := Same.new nL
        have hX10 := S10 _ _ hX9
        have kp10 := kp.trans (Kp.of (C := (· = X0)) S10)
        generalize upd H9 L (.lst (V.str "signal" :: V.str z :: V.str (Str.ofString (toString (((entS TS z).2.2.1 : Nat) : Int))) :: (entS TS z).2.2.2.2.map V.str)) = H10 at hL S10 hX10 kp10 ⊢
        have jb := (jn_bd al.2.1).2
        rw [e2] at jb al1
        refine ⟨" ", L, ("signal" : Str) :: z :: roomT (entS TS z).2.2.1 :: (entS TS z).2.2.2.2, rfl, rfl, .inl (SqL.of hL), by omega, ?_⟩
        have ew : Txt.join " " (("signal" : Str) :: z :: roomT (entS TS z).2.2.1 :: (entS TS z).2.2.2.2) = sigL (entS TS z) := by unfold sigL; rw [e2]
        rw [ew]
        refine ⟨X0, _, _, rfl, rfl, hX10, small1000 (by rw [List.length_map, List.length_append, List.length_map, List.length_map, List.length_take]; omega), ?_⟩
        refine ⟨⟨_, _, _, rfl⟩, kp10.trans fun b o hb nb => by rw [upd_ne nb]; exact hb, ?_⟩
        rw [upd_same, take_more hz]
        simp
      · obtain ⟨⟨x4, x5, x6, rfl⟩, kp, hX8⟩ := q
        rw [List.length_map, List.take_length] at hX8
        have S28 : Same H2 H8 := Kp.base (S26.trans S7) kp fun c e => by subst e; exact n26
        have S08 := S02.trans S28
        obtain ⟨i6, i8, i60⟩ := inp_len t.i
        refine ⟨_, rfl, .inl ⟨rfl, _, SqL.of hX8⟩, ?_⟩
        refine ⟨⟨_, rfl⟩, _, rfl, p, dx, fs, rfl, S08 _ _ hp, f4, p, _, _, _, rows, rfl, pg.same S08, ?_⟩
        refine ⟨i, _, rfl, .inl (SqT.of (S08 _ _ hi)), ?_⟩
        show (V.str "inputs" :: (inp.map V.str ++ [])).length ≤ sizeLine ∧ _
        rw [List.append_nil]
        refine ⟨by rw [sizeLine_eq]; simp only [List.length_cons, List.length_map] at i6 ⊢; omega, fun L nL => ?_⟩
        have hL : upd H8 L (.lst (V.str "inputs" :: inp.map V.str)) L = some (.lst ((("inputs" : Str) :: inp).map V.str)) := upd_same
        have S9 : Same H8 (upd H8 L (.lst (V.str "inputs" :: inp.map V.str))) := Same.new nL
        have hX9 := S9 _ _ hX8
        have S29 := S28.trans S9
        generalize upd H8 L (.lst (V.str "inputs" :: inp.map V.str)) = H9 at hL S9 hX9 S29 ⊢
        have jb := (jn_bd i8).2
        refine ⟨" ", L, ("inputs" : Str) :: inp, rfl, rfl, .inl (SqL.of hL), by omega, ?_⟩
        refine ⟨X0, _, _, rfl, rfl, hX9, small1000 (by rw [List.length_map, List.length_append, List.length_map, List.length_map]; omega), ?_⟩
        have S2a : Same H2 (upd H9 X0 (.lst (((ya.map (fun z => askL (entA TA z)) ++ ys.map (fun z => sigL (entS TS z))).map V.str) ++ [V.str (Txt.join " " (("inputs" : Str) :: inp))]))) := fun b o hb => by rw [upd_ne (ne_of_none hb n26)]; exact S29 _ _ hb
        have hXa : upd H9 X0 (.lst (((ya.map (fun z => askL (entA TA z)) ++ ys.map (fun z => sigL (entS TS z))).map V.str) ++ [V.str (Txt.join " " (("inputs" : Str) :: inp))])) X0 = _ := upd_same
        generalize upd H9 X0 (.lst (((ya.map (fun z => askL (entA TA z)) ++ ys.map (fun z => sigL (entS TS z))).map V.str) ++ [V.str (Txt.join " " (("inputs" : Str) :: inp))])) = Ha at S2a hXa ⊢
        refine ⟨_, rfl, .inl ⟨rfl, _, SqL.of hXa⟩, ?_⟩
        have hl : ya.length ≤ 6 := l6
        refine ⟨X0, _, _, rfl, rfl, hXa, small1000 (by simp only [List.length_map, List.length_append, List.length_cons, List.length_nil]; omega), ?_⟩
        have eb : ((ya.map (fun z => askL (entA TA z)) ++ ys.map (fun z => sigL (entS TS z))).map V.str ++ [V.str (Txt.join " " (("inputs" : Str) :: inp))]) ++ [V.str "rows"] = (headL TA TS inp ya ys).map V.str := by unfold headL; simp
        rw [eb]
        have S2b : Same H2 (upd Ha X0 (.lst ((headL TA TS inp ya ys).map V.str))) := fun b o hb => by rw [upd_ne (ne_of_none hb n26)]; exact S2a _ _ hb
        have hXb : upd Ha X0 (.lst ((headL TA TS inp ya ys).map V.str)) X0 = some (.lst ((headL TA TS inp ya ys).map V.str)) := upd_same
        generalize upd Ha X0 (.lst ((headL TA TS inp ya ys).map V.str)) = Hb at S2b hXb ⊢
        have lrows := lsz_len (d := 5) (by omega) rows
        have tz := t.z
        refine ⟨_, rfl, .inl ⟨rfl, _, SqL.of hXb⟩, ?_⟩
        have S0b := S02.trans S2b
        refine ⟨_, rfl, p, dx, fs, rfl, S0b _ _ hp, f1, p, _, _, _, rows, rfl, pg.same S0b, by omega, fun Hc Dr yr Sbc nDr hDr rr => ?_⟩
        obtain ⟨kt, g⟩ := t.g
        refine ⟨Dr, 1, Hc, rows, yr, kt, false, rfl, hDr, Same.refl Hc, rr.imp fun _ _ _ q => RowAt.mono res_same q, g, tz, by decide, fun Hd L Scd nL hL => ?_⟩
        have Sbd := Sbc.trans Scd
        have b := text_bd t pa ps
        refine ⟨X0, L, _, _, rfl, rfl, Sbd _ _ hXb, hL, by have b1 := b.1; rw [List.length_append] at b1; show ((headL TA TS inp ya ys).map V.str).length + ((lineL 5 rows 1).map V.str).length ≤ sizeLine; rw [List.length_map, List.length_map, sizeLine_eq]; omega, ?_⟩
        have S2e : Same H2 (upd Hd X0 (.lst ((headL TA TS inp ya ys).map V.str ++ (lineL 5 rows 1).map V.str))) := fun b o hb => by rw [upd_ne (ne_of_none hb n26)]; exact Sbd _ _ (S2b _ _ hb)
        have hXe : upd Hd X0 (.lst ((headL TA TS inp ya ys).map V.str ++ (lineL 5 rows 1).map V.str)) X0 = some (.lst ((headL TA TS inp ya ys ++ lineL 5 rows 1).map V.str)) := by rw [upd_same, List.map_append]
        refine ⟨⟨_, rfl⟩, _, rfl, "\n", X0, headL TA TS inp ya ys ++ lineL 5 rows 1, rfl, rfl, .inl (SqL.of hXe), b.2, k _ ya ys (S02.trans S2e) pa sa ps ss⟩
end
end OR

set_option Elab.async false
set_option maxRecDepth 100000
set_option maxHeartbeats 8000000
set_option linter.all false
namespace OR
open PySem PySem.Spec PyProof.Rows L2 TS2
theorem WideIs.tx {kt : Kit} {TA : AT} {TS : ST} {rows : List (Row 5)} (h : WideIs kt TA TS rows) : TxIs TA TS kt.asks kt.sigs kt.inputs rows := ⟨h.gA, h.gS, h.wA, h.wS, h.nA, h.nS, h.lA, h.lS, h.i, ⟨kt, h.g⟩, h.z⟩
theorem keysV {kvs : List (Key × V)} {ns : List Str} (h : kvs.map (·.1) = ns.map Sum.inr) : (kvs.map fun kv => kV kv.1) = ns.map V.str := by
  have : (kvs.map (·.1)).map kV = (ns.map (Sum.inr : Str → Key)).map kV := by rw [h]
  rw [List.map_map, List.map_map] at this
  exact this
def spLHead (K : PySem.W.Frag) : Sp := fun vs H Q _ => ∃ (sd n a s i R : Addr) (kt : Kit) (TA : AT) (TS : ST) (rows : List (Row 5)), vs = [.ref sd] ∧ Wide K H sd n a s i R kt TA TS rows ∧ WideIs kt TA TS rows ∧
  ∀ (H' : Hp) (D : Addr) (ya ys : List Str), Same H H' → H D = none → H' D = some (.lst ((headL TA TS kt.inputs ya ys).map V.str)) → ya.Perm kt.asks → sortedS ya = true → ys.Perm kt.sigs → sortedS ys = true → Q (.ref D) H'
section
variable {P : Program} {w : World} {K : PySem.W.Frag} {mg : Str → Option Value} {base : Heap}
theorem ok_lhead {f : Addr} {fd : FuncData} (F : FnP K "_law_head" "_law_head" s__law_head f fd) (T : Tx w K mg) : FnOk P w K mg base CX0 1 f fd p__law_head (spLHead K) := by
  refine F.ok sc__law_head (fun vs H Q E h => ?_) (fun cdv A outer s H vs Q E hr h => ?_)
  · obtain ⟨sd, _, _, _, _, _, _, _, _, _, rfl, _⟩ := h
    rfl
  · obtain ⟨sd, n, a, s', i, R, kt, TA, TS, rows, rfl, wd, wi, k⟩ := h
    have hu := hu_of hr
    have t := wi.tx
    refine ⟨_, PSs.nox (pss_cons (ps_set (i := 1) sc__law_head.nd rfl (.inl rfl) (pe_lst pa_nil))
      (pss_cons (ps_for PassesOwn.never rfl (pi_list (pe_callB cr_sortedS (by rfl) T.b_sorted (by decide +kernel) (pa_cons (pe_callTy (call_listD rfl) (by rfl) T.b_list (by decide +kernel) (pa_cons (pe_dget hu (pv 0) pe_str (fun _ _ => rfl)) pa_nil)) pa_nil))) (pg_name (i := 2) sc__law_head.nd rfl (.inl rfl)) (pss_one (ps_expr (pe_bm PySem.F.plainAttrs_list PySem.F.slot_list_append PySem.F.type_list_append mt_append (pv 1) (pa_cons (pe_op op_add_str (pe_op op_add_str (pe_op op_add_str pe_str (pv 2)) pe_str) (pe_join pe_str (pe_callTy call_list_of (by rfl) T.b_list (by decide +kernel) (pa_cons (pe_dget hu (pe_dget hu (pv 0) pe_str (fun _ _ => rfl)) (pv 2) (fun _ _ => rfl)) pa_nil)))) pa_nil)))))
      (pss_cons (ps_for PassesOwn.never rfl (pi_list (pe_callB cr_sortedS (by rfl) T.b_sorted (by decide +kernel) (pa_cons (pe_callTy (call_listD rfl) (by rfl) T.b_list (by decide +kernel) (pa_cons (pe_dget hu (pv 0) pe_str (fun _ _ => rfl)) pa_nil)) pa_nil))) (pg_name (i := 2) sc__law_head.nd rfl (.inl rfl)) (pss_cons (ps_asg (pe_dget hu (pe_dget hu (pv 0) pe_str (fun _ _ => rfl)) (pv 2) (fun _ _ => rfl)) (pg_tup (by rfl) (pgs_cons (pg_name (i := 3) sc__law_head.nd rfl (.inl rfl)) (pgs_cons (pg_name (i := 4) sc__law_head.nd rfl (.inl rfl)) pgs_nil))))
      (pss_one (ps_expr (pe_bm PySem.F.plainAttrs_list PySem.F.slot_list_append PySem.F.type_list_append mt_append (pv 1) (pa_cons (pe_op op_add_str (pe_op op_add_str (pe_op op_add_str (pe_op op_add_str (pe_op op_add_str pe_str (pv 2)) pe_str) (pe_callTy call_str_int (by rfl) T.b_str (by decide +kernel) (pa_cons (pv 3) pa_nil))) pe_str) (pe_join pe_str (pe_callTy call_list_of (by rfl) T.b_list (by decide +kernel) (pa_cons (pv 4) pa_nil)))) pa_nil))))))
      (pss_one (ps_ret (pe_op op_cat (pv 1) (pe_lst (pa_cons (pe_op op_add_str pe_str (pe_join pe_str (pe_callTy call_list_of (by rfl) T.b_list (by decide +kernel) (pa_cons (pe_dget hu (pv 0) pe_str (fun _ _ => rfl)) pa_nil)))) (pa_cons pe_str pa_nil))))))))), ?_⟩
    refine ⟨by show 0 ≤ sizeLine; decide, fun D nD => ?_⟩
    have S1 : Same H (upd H D (.lst [])) := Same.new nD
    have hD : upd H D (.lst []) D = some (.lst []) := upd_same
    generalize upd H D (.lst []) = H1 at S1 hD ⊢
    have w1 := wd.same S1
    refine ⟨_, rfl, sd, _, rfl, DGet.k (k := .inr "asks") w1.sd, a, _, rfl, .inl w1.a, fun L1 n1 => ?_⟩
    rw [keysV (atk_keys t.gA)]
    have hL1 : upd H1 L1 (.lst (kt.asks.map V.str)) L1 = some (.lst (kt.asks.map V.str)) := upd_same
    have S2 : Same H1 (upd H1 L1 (.lst (kt.asks.map V.str))) := Same.new n1
    generalize upd H1 L1 (.lst (kt.asks.map V.str)) = H2 at hL1 S2 ⊢
    refine ⟨L1, kt.asks, rfl, SqL.of hL1, by have := t.lA; omega, fun ya La pa sa nLa => ?_⟩
    have l6 : ya.length ≤ 6 := by have := t.lA; have := pa.length_eq; omega
    have S3 : Same H2 (upd H2 La (.lst (ya.map V.str))) := Same.new nLa
    have hLa : upd H2 La (.lst (ya.map V.str)) La = some (.lst (ya.map V.str)) := upd_same
    have S13 := S2.trans S3
    generalize upd H2 La (.lst (ya.map V.str)) = H3 at S3 S13 hLa ⊢
    have LD : La ≠ D := (ne_of_none (S2 _ _ hD) nLa).symm
    refine ⟨La, rfl, ⟨_, SqL.of hLa⟩, ?_⟩
    refine for_it (walk_list (K := K) (a := La) (xs := ya.map V.str)) (fun j σ' H' => (∃ x2 x3 x4 : Option V, σ' = [some (.ref sd), some (.ref D), x2, x3, x4]) ∧ Kp (· = D) H3 H' ∧ H' D = some (.lst ((ya.take j).map (fun z => askL (entA TA z)) |>.map V.str)))
      ⟨⟨none, none, none, rfl⟩, Kp.refl _, S13 _ _ hD⟩ (fun j σ' H' _ q => SqL.of (q.2.1 _ _ hLa LD)) (fun j x σ' H4 H5 hj q y => ?_) (fun σ' H4 q => ?_)
    · obtain ⟨⟨x2, x3, x4, rfl⟩, kp, hX⟩ := q
      obtain ⟨rfl, hy⟩ := y
      obtain ⟨z, hz, rfl⟩ := mapG hy
      have zm : z ∈ kt.asks := pa.mem_iff.mp (List.mem_of_getElem? hz)
      obtain ⟨e1, e2, e3⟩ := entA_in (T := TA) (z := z) (by rw [t.gA.n]; exact zm)
      have S05 : Same H H5 := Kp.base (S1.trans S13) kp fun c e => by subst e; exact nD
      have w5 := wd.same S05
      have hT := w5.tm _ (List.mem_append_left _ (List.mem_map.mpr ⟨_, e1, rfl⟩))
      have hw := t.gA.w _ e1
      have zl := isWord_len (t.wA z zm)
      have jb := jn_bd (c := 8) (fun y hy => isWord_len (hw.1 y hy))
      have wl := hw.2.2.2
      refine ⟨_, rfl, .inl ⟨rfl, _, SqL.of hX⟩, ?_⟩
      have c4 : ("ask " : Str).length = 4 := (by decide +kernel)
      have c1 : (" " : Str).length = 1 := (by decide +kernel)
      refine ⟨_, rfl, _, _, rfl, rfl, by rw [sizeLine_eq]; omega, ?_⟩
      refine ⟨_, _, rfl, rfl, by rw [len_app, sizeLine_eq]; omega, ?_⟩
      refine ⟨⟨_, rfl⟩, _, rfl, sd, _, rfl, DGet.k (k := .inr "asks") w5.sd, _, rfl, a, _, rfl, dg_of w5.a e3, _, _, rfl, .inr (SqT.of hT), fun L nL => ?_⟩
      have S6 : Same H5 (upd H5 L (.lst ((entA TA z).2.2.map V.str))) := Same.new nL
      have hL : upd H5 L (.lst ((entA TA z).2.2.map V.str)) L = some (.lst ((entA TA z).2.2.map V.str)) := upd_same
      have hX6 := S6 _ _ hX
      have kp6 := kp.trans (Kp.of (C := (· = D)) S6)
      generalize upd H5 L (.lst ((entA TA z).2.2.map V.str)) = H6 at S6 hL hX6 kp6 ⊢
      refine ⟨" ", L, (entA TA z).2.2, rfl, rfl, .inl (SqL.of hL), by have := jb.2; omega, ?_⟩
      refine ⟨_, _, rfl, rfl, by rw [len_app, len_app, sizeLine_eq]; have := jb.1; omega, ?_⟩
      have ne : (entA TA z).2.2 ≠ [] := ws_ne hw
      have ew : ("ask " : Str) ++ z ++ " " ++ Txt.join " " (entA TA z).2.2 = askL (entA TA z) := by rw [ask_line ne]; unfold askL; rw [e2]
      rw [ew]
      refine ⟨D, _, _, rfl, rfl, hX6, small1000 (by rw [List.length_map, List.length_map, List.length_take]; omega), ?_⟩
      refine ⟨⟨_, _, _, rfl⟩, kp6.trans fun b o hb nb => by rw [upd_ne nb]; exact hb, ?_⟩
      rw [upd_same, take_more hz]
      simp
    · obtain ⟨⟨x2, x3, x4, rfl⟩, kp, hX⟩ := q
      rw [List.length_map, List.take_length] at hX
      have S04 : Same H H4 := Kp.base (S1.trans S13) kp fun c e => by subst e; exact nD
      have w4 := wd.same S04
      refine ⟨_, rfl, sd, _, rfl, DGet.k (k := .inr "signals") w4.sd, s', _, rfl, .inl w4.s, fun L2 n2 => ?_⟩
      rw [keysV (stk_keys t.gS)]
      have hL2 : upd H4 L2 (.lst (kt.sigs.map V.str)) L2 = some (.lst (kt.sigs.map V.str)) := upd_same
      have S5 : Same H4 (upd H4 L2 (.lst (kt.sigs.map V.str))) := Same.new n2
      generalize upd H4 L2 (.lst (kt.sigs.map V.str)) = H5 at hL2 S5 ⊢
      refine ⟨L2, kt.sigs, rfl, SqL.of hL2, by have := t.lS; omega, fun ys Ls ps ss nLs => ?_⟩
      have l3 : ys.length ≤ 3 := by have := t.lS; have := ps.length_eq; omega
      have S6 : Same H5 (upd H5 Ls (.lst (ys.map V.str))) := Same.new nLs
      have hLs : upd H5 Ls (.lst (ys.map V.str)) Ls = some (.lst (ys.map V.str)) := upd_same
      have S46 := S5.trans S6
      have hX5 := S5 _ _ hX
      generalize upd H5 Ls (.lst (ys.map V.str)) = H6 at S6 S46 hLs ⊢
      have LD : Ls ≠ D := (ne_of_none hX5 nLs).symm
      have hX6 := S6 _ _ hX5
      refine ⟨Ls, rfl, ⟨_, SqL.of hLs⟩, ?_⟩
      refine for_it (walk_list (K := K) (a := Ls) (xs := ys.map V.str)) (fun j σ' H' => (∃ x2 x3 x4 : Option V, σ' = [some (.ref sd), some (.ref D), x2, x3, x4]) ∧ Kp (· = D) H6 H' ∧ H' D = some (.lst ((ya.map (fun z => askL (entA TA z)) ++ (ys.take j).map (fun z => sigL (entS TS z))).map V.str)))
        ⟨⟨_, _, _, rfl⟩, Kp.refl _, by rw [List.take_zero, List.map_nil, List.append_nil]; exact hX6⟩ (fun j σ' H' _ q => SqL.of (q.2.1 _ _ hLs LD)) (fun j x σ' H7 H8 hj q y => ?_) (fun σ' H7 q => ?_)
      · obtain ⟨⟨x2, x3, x4, rfl⟩, kp, hX⟩ := q
        obtain ⟨rfl, hy⟩ := y
        obtain ⟨z, hz, rfl⟩ := mapG hy
        have zm : z ∈ kt.sigs := ps.mem_iff.mp (List.mem_of_getElem? hz)
        obtain ⟨e1, e2, e3⟩ := entS_in (T := TS) (z := z) (by rw [t.gS.n]; exact zm)
        have S08 : Same H H8 := Kp.base (S04.trans S46) kp fun c e => by subst e; exact nD
        have w8 := wd.same S08
        have hT := w8.tm _ (List.mem_append_right _ (List.mem_append_left _ (List.mem_map.mpr ⟨_, e1, rfl⟩)))
        have hU := w8.tm _ (List.mem_append_right _ (List.mem_append_right _ (List.mem_map.mpr ⟨_, e1, rfl⟩)))
        have hw := t.gS.w _ e1
        have zl := isWord_len (t.wS z zm)
        have jb := jn_bd (c := 8) (fun y hy => isWord_len (hw.1.1 y hy))
        have wl := hw.1.2.2.2
        have rl := room_len _ hw.2.2
        have hX8 : H8 D = some (.lst ((ya.map (fun z => askL (entA TA z)) ++ (ys.take j).map (fun z => sigL (entS TS z))).map V.str)) := hX
        refine ⟨_, rfl, sd, _, rfl, DGet.k (k := .inr "signals") w8.sd, _, rfl, s', _, rfl, dg_of w8.s e3, ?_⟩
        refine ⟨_, _, rfl, SqT.of hT, rfl, _, _, rfl, _, _, rfl, rfl, ?_⟩
        refine ⟨_, rfl, .inl ⟨rfl, _, SqL.of hX8⟩, ?_⟩
        have c7 : ("signal " : Str).length = 7 := (by decide +kernel)
        have c1 : (" " : Str).length = 1 := (by decide +kernel)
        refine ⟨_, rfl, _, _, rfl, rfl, by rw [sizeLine_eq]; omega, ?_⟩
        refine ⟨_, _, rfl, rfl, by rw [len_app, sizeLine_eq]; omega, ?_⟩
        refine ⟨_, rfl, _, rfl, ?_, ?_⟩
        · have := hw.2.2
          have e : (((entS TS z).2.2.1 : Nat) : Int).natAbs = (entS TS z).2.2.1 := Int.natAbs_natCast _
          rw [e]
          exact Nat.lt_of_le_of_lt (Nat.log2_le_self _) (by omega)
        refine ⟨_, roomT (entS TS z).2.2.1, rfl, rfl, by rw [len_app, len_app, sizeLine_eq]; omega, ?_⟩
        refine ⟨_, _, rfl, rfl, by rw [len_app, len_app, len_app, sizeLine_eq]; omega, ?_⟩
        refine ⟨⟨_, rfl⟩, _, rfl, _, _, rfl, .inr (SqT.of hU), fun L nL => ?_⟩
        have S9 : Same H8 (upd H8 L (.lst ((entS TS z).2.2.2.2.map V.str))) := Same.new nL
        have hL : upd H8 L (.lst ((entS TS z).2.2.2.2.map V.str)) L = some (.lst ((entS TS z).2.2.2.2.map V.str)) := upd_same
        have hX9 := S9 _ _ hX8
        have kp9 := kp.trans (Kp.of (C := (· = D)) S9)
        generalize upd H8 L (.lst ((entS TS z).2.2.2.2.map V.str)) = H9 at S9 hL hX9 kp9 ⊢
        refine ⟨" ", L, (entS TS z).2.2.2.2, rfl, rfl, .inl (SqL.of hL), by have := jb.2; omega, ?_⟩
        refine ⟨_, _, rfl, rfl, by rw [len_app, len_app, len_app, len_app, sizeLine_eq]; have := jb.1; omega, ?_⟩
        have ne : (entS TS z).2.2.2.2 ≠ [] := ws_ne hw.1
        have ew : ("signal " : Str) ++ z ++ " " ++ roomT (entS TS z).2.2.1 ++ " " ++ Txt.join " " (entS TS z).2.2.2.2 = sigL (entS TS z) := by rw [sig_line ne]; unfold sigL; rw [e2]
        rw [ew]
        refine ⟨D, _, _, rfl, rfl, hX9, small1000 (by rw [List.length_map, List.length_append, List.length_map, List.length_map, List.length_take]; omega), ?_⟩
        refine ⟨⟨_, _, _, rfl⟩, kp9.trans fun b o hb nb => by rw [upd_ne nb]; exact hb, ?_⟩
        rw [upd_same, take_more hz]
        simp
      · obtain ⟨⟨x2, x3, x4, rfl⟩, kp, hX⟩ := q
        rw [List.length_map, List.take_length] at hX
        have S07 : Same H H7 := Kp.base (S04.trans S46) kp fun c e => by subst e; exact nD
        have w7 := wd.same S07
        have jb := jn_bd (c := 8) (fun y hy => isWord_len (t.i.1 y hy))
        have wl := t.i.2.2.2
        have c7 : ("inputs " : Str).length = 7 := (by decide +kernel)
        have c1 : (" " : Str).length = 1 := (by decide +kernel)
        refine ⟨_, rfl, ⟨_, rfl⟩, _, rfl, sd, _, rfl, DGet.k (k := .inr "inputs") w7.sd, _, _, rfl, .inr (SqT.of w7.i), fun L nL => ?_⟩
        have S8 : Same H7 (upd H7 L (.lst (kt.inputs.map V.str))) := Same.new nL
        have hL : upd H7 L (.lst (kt.inputs.map V.str)) L = some (.lst (kt.inputs.map V.str)) := upd_same
        have hX8 := S8 _ _ hX
        generalize upd H7 L (.lst (kt.inputs.map V.str)) = H8 at S8 hL hX8 ⊢
        refine ⟨" ", L, kt.inputs, rfl, rfl, .inl (SqL.of hL), by have := jb.2; omega, ?_⟩
        refine ⟨_, _, rfl, rfl, by rw [sizeLine_eq]; have := jb.1; omega, ?_⟩
        rw [inp_line (ws_ne t.i)]
        refine ⟨by show 2 ≤ sizeLine; decide, fun M nM => ?_⟩
        have S9 : Same H8 (upd H8 M (.lst [V.str (Txt.join " " ("inputs" :: kt.inputs)), V.str "rows"])) := Same.new nM
        have hM : upd H8 M (.lst [V.str (Txt.join " " ("inputs" :: kt.inputs)), V.str "rows"]) M = some (.lst [V.str (Txt.join " " ("inputs" :: kt.inputs)), V.str "rows"]) := upd_same
        have hX9 := S9 _ _ hX8
        have S79 := S8.trans S9
        generalize upd H8 M (.lst [V.str (Txt.join " " ("inputs" :: kt.inputs)), V.str "rows"]) = H9 at S9 hM hX9 S79 ⊢
        refine ⟨D, M, _, _, rfl, rfl, hX9, hM, small1000 (by simp only [List.length_map, List.length_append, List.length_cons, List.length_nil]; omega), fun Y nY => ?_⟩
        have S0Y := (S07.trans S79).trans (Same.new (o := .lst ((ya.map (fun z => askL (entA TA z)) ++ ys.map (fun z => sigL (entS TS z))).map V.str ++ [V.str (Txt.join " " ("inputs" :: kt.inputs)), V.str "rows"])) nY)
        refine k _ Y ya ys S0Y ((S07.trans S79).free nY) ?_ pa sa ps ss
        rw [upd_same]
        unfold headL
        simp
end
end OR

set_option Elab.async false
set_option maxRecDepth 100000
set_option maxHeartbeats 8000000
set_option linter.all false
namespace OR
open PySem PySem.Spec PyProof.Rows L2 TS2
def spLText (K : PySem.W.Frag) : Sp := fun vs H Q _ => ∃ (sd n a s i R : Addr) (kt : Kit) (TA : AT) (TS : ST) (rows : List (Row 5)), vs = [.ref sd] ∧ Wide K H sd n a s i R kt TA TS rows ∧ WideIs kt TA TS rows ∧
  ∀ (H' : Hp) (ya ys : List Str), Same H H' → ya.Perm kt.asks → sortedS ya = true → ys.Perm kt.sigs → sortedS ys = true → Q (.str (textOf TA TS kt.inputs rows ya ys)) H'
theorem valV_of {kvs : List (Key × V)} {ns : List Str} {z : Str} (h : kvs.map (·.1) = ns.map Sum.inr) (hz : z ∈ ns) : ∃ v, valV kvs (Sum.inr z : Key) = some v := by
  have hm : (Sum.inr z : Key) ∈ kvs.map (·.1) := by rw [h]; exact List.mem_map.mpr ⟨z, hz, rfl⟩
  clear h hz
  induction kvs with
  | nil => cases hm
  | cons p r ih =>
    by_cases c : p.1 = Sum.inr z
    · exact ⟨p.2, valV_pos c⟩
    · obtain ⟨v, e⟩ := ih ((List.mem_cons.mp hm).resolve_left fun q => c q.symm)
      exact ⟨v, (valV_neg c).trans e⟩
def dictOf (kvs : List (Key × V)) (zs : List Str) : List (Key × V) := zs.map fun z => (Sum.inr z, (valV kvs (Sum.inr z)).getD .non)
theorem dictOf_keys (kvs : List (Key × V)) (zs : List Str) : (dictOf kvs zs).map (·.1) = zs.map Sum.inr := by
  unfold dictOf
  rw [List.map_map]
  rfl
def spTurned (K : PySem.W.Frag) : Sp := fun vs H Q _ => ∃ (a : Addr) (kvs : List (Key × V)) (ns : List Str), vs = [.ref a] ∧ H a = some (.dK kvs) ∧ kvs.map (·.1) = ns.map Sum.inr ∧ ns.Nodup ∧ ns.length < 64 ∧
  ∀ (H' : Hp) (D : Addr) (zs : List Str), Same H H' → H D = none → zs.Perm ns → H' D = some (.dK (dictOf kvs zs)) → Q (.ref D) H'
section
variable {P : Program} {w : World} {K : PySem.W.Frag} {mg : Str → Option Value} {base : Heap}
theorem ok_ltext {k0 : Nat} {f : Addr} {fd : FuncData} (F : FnP K "_law_text" "_law_text" s__law_text f fd) (T : Tx w K mg) (h1 : 1 ≤ k0) (G__law_head : Def P w K mg base CX0 1 "_law_head" p__law_head (spLHead K)) (G__law_lines : Def P w K mg base CX0 k0 "_law_lines" p__law_lines (spLLines K 5)) : FnOk P w K mg base CX0 (k0 + 1) f fd p__law_text (spLText K) := by
  refine F.ok sc__law_text (fun vs H Q E h => ?_) (fun cdv A outer s H vs Q E hr h => ?_)
  · obtain ⟨sd, _, _, _, _, _, _, _, _, _, rfl, _⟩ := h
    rfl
  · obtain ⟨sd, n, a, s', i, R, kt, TA, TS, rows, rfl, wd, wi, k⟩ := h
    have hu := hu_of hr
    have t := wi.tx
    refine ⟨_, PSs.nox (pss_one (ps_ret (pe_join pe_str (pe_op op_cat (pe_fn G__law_head (hr.mono (by omega)) (by rfl) pass0 (pa_cons (pv 0) pa_nil)) (pe_fn G__law_lines (hr.mono (by omega)) (by rfl) pass0 (pa_cons (pe_dget hu (pv 0) pe_str (fun _ _ => rfl)) (pa_cons pe_int pa_nil))))))), ?_⟩
    refine ⟨⟨_, rfl⟩, _, rfl, sd, n, a, s', i, R, kt, TA, TS, rows, rfl, wd, wi, fun H1 D ya ys S1 nD hD pa sa ps ss => ?_⟩
    have w1 := wd.same S1
    obtain ⟨xs, hR, rx⟩ := w1.r
    refine ⟨_, rfl, sd, _, rfl, DGet.k (k := .inr "rows") w1.sd, R, 1, H1, rows, xs, kt, false, rfl, hR, Same.refl H1, rx, wi.g, wi.z, by decide, fun H2 L S2 nL hL => ?_⟩
    have b := text_bd t pa ps
    refine ⟨D, L, _, _, rfl, rfl, S2 _ _ hD, hL, ?_, fun Y nY => ?_⟩
    · have b1 := b.1
      rw [List.length_append] at b1
      show ((headL TA TS kt.inputs ya ys).map V.str).length + ((lineL 5 rows 1).map V.str).length ≤ sizeLine
      rw [List.length_map, List.length_map, sizeLine_eq]
      omega
    have hY : upd H2 Y (.lst ((headL TA TS kt.inputs ya ys).map V.str ++ (lineL 5 rows 1).map V.str)) Y = some (.lst ((headL TA TS kt.inputs ya ys ++ lineL 5 rows 1).map V.str)) := by rw [upd_same, List.map_append]
    exact ⟨"\n", Y, headL TA TS kt.inputs ya ys ++ lineL 5 rows 1, rfl, rfl, .inl (SqL.of hY), b.2, k _ ya ys ((S1.trans S2).trans (Same.new nY)) pa sa ps ss⟩
theorem ok_turned {f : Addr} {fd : FuncData} (F : FnP K "_law_turned" "_law_turned" s__law_turned f fd) (T : Tx w K mg) : FnOk P w K mg base CX0 1 f fd p__law_turned (spTurned K) := by
  refine F.ok sc__law_turned (fun vs H Q E h => ?_) (fun cdv A outer s H vs Q E hr h => ?_)
  · obtain ⟨_, _, _, rfl, _⟩ := h
    rfl
  · obtain ⟨a, kvs, ns, rfl, ha, hk, nd, few, k⟩ := h
    have hu := hu_of hr
    refine ⟨_, PSs.nox (pss_cons (ps_set (i := 1) sc__law_turned.nd rfl (.inl rfl) pe_dnewK)
      (pss_cons (ps_for PassesOwn.never rfl (pi_list (pe_revL (pe_callB cr_sortedS (by rfl) T.b_sorted (by decide +kernel) (pa_cons (pe_callTy (call_listD rfl) (by rfl) T.b_list (by decide +kernel) (pa_cons (pv 0) pa_nil)) pa_nil)))) (pg_name (i := 2) sc__law_turned.nd rfl (.inl rfl)) (pss_one (ps_dput hu (pv 1) (pv 2) (pe_dget hu (pv 0) (pv 2) (fun _ _ => rfl)) rfl)))
      (pss_one (ps_ret (pv 1))))), ?_⟩
    intro D nD
    have S1 : Same H (upd H D (.dK [])) := Same.new nD
    have hD : upd H D (.dK []) D = some (.dK []) := upd_same
    generalize upd H D (.dK []) = H1 at S1 hD ⊢
    have ha1 := S1 _ _ ha
    refine ⟨_, rfl, a, _, rfl, .inl ha1, fun L nL => ?_⟩
    rw [keysV hk]
    have S2 : Same H1 (upd H1 L (.lst (ns.map V.str))) := Same.new nL
    have hL : upd H1 L (.lst (ns.map V.str)) L = some (.lst (ns.map V.str)) := upd_same
    generalize upd H1 L (.lst (ns.map V.str)) = H2 at S2 hL ⊢
    refine ⟨L, ns, rfl, SqL.of hL, few, fun ys q pm so nq => ?_⟩
    have S3 : Same H2 (upd H2 q (.lst (ys.map V.str))) := Same.new nq
    have hq : upd H2 q (.lst (ys.map V.str)) q = some (.lst (ys.map V.str)) := upd_same
    generalize upd H2 q (.lst (ys.map V.str)) = H3 at S3 hq ⊢
    have hD3 : H3 D = some (.dK []) := S3 _ _ (S2 _ _ hD)
    have S03 : Same H H3 := (S1.trans S2).trans S3
    refine ⟨q, _, rfl, SqL.of hq, fun r nr => ?_⟩
    rw [← List.map_reverse]
    have pz : ys.reverse.Perm ns := (List.reverse_perm ys).trans pm
    have S4 : Same H3 (upd H3 r (.lst (ys.reverse.map V.str))) := Same.new nr
    have hr4 : upd H3 r (.lst (ys.reverse.map V.str)) r = some (.lst (ys.reverse.map V.str)) := upd_same
    generalize upd H3 r (.lst (ys.reverse.map V.str)) = H4 at S4 hr4 ⊢
    generalize ys.reverse = zs at pz hr4
    have hD4 := S4 _ _ hD3
    have S04 := S03.trans S4
    have rD : r ≠ D := (ne_of_none hD3 nr).symm
    have nz : zs.Nodup := pz.nodup_iff.mpr nd
    refine ⟨r, rfl, ⟨_, SqL.of hr4⟩, ?_⟩
    refine for_it (walk_list (K := K) (a := r) (xs := zs.map V.str)) (fun i σ H' => ∃ v2 : Option V, σ = [some (.ref a), some (.ref D), v2] ∧ Kp (· = D) H4 H' ∧ H' D = some (.dK (dictOf kvs (zs.take i)))) ⟨_, rfl, Kp.refl _, hD4⟩ (fun i σ H' _ q => ?_) (fun i x σ H5 H6 hi q y => ?_) (fun σ H5 q => ?_)
    · obtain ⟨v2, rfl, kp, hd⟩ := q
      exact SqL.of (kp _ _ hr4 rD)
    · obtain ⟨v2, rfl, kp, hd⟩ := q
      obtain ⟨rfl, hx⟩ := y
      obtain ⟨z, hz, rfl⟩ := mapG hx
      obtain ⟨v, hv⟩ := valV_of hk (pz.mem_iff.mp (List.mem_of_getElem? hz))
      have S06 : Same H H6 := Kp.base S04 kp fun c e => by subst e; exact nD
      refine ⟨_, rfl, _, rfl, a, v, rfl, dg_of (S06 _ _ ha) hv, ?_⟩
      have vn : valV (dictOf kvs (zs.take i)) (Sum.inr z : Key) = none := valV_new (dictOf_keys _ _) (take_nd nz hz)
      have e : putK (dictOf kvs (zs.take i)) (Sum.inr z : Key) v = dictOf kvs (zs.take (i + 1)) := by
        rw [putK_new _ vn, take_more hz]
        unfold dictOf
        rw [List.map_append, List.map_cons, List.map_nil, hv]
        rfl
      have lz : (dictOf kvs (zs.take i)).length ≤ 64 := by unfold dictOf; rw [List.length_map, List.length_take]; have := pz.length_eq; omega
      refine ⟨_, rfl, _, rfl, D, _, rfl, DPut.k (k := .inr z) hd (small1000 (by omega)), ?_⟩
      rw [e]
      exact ⟨_, rfl, kp.trans fun b o hb nb => by rw [upd_ne nb]; exact hb, upd_same⟩
    · obtain ⟨v2, rfl, kp, hd⟩ := q
      rw [List.length_map, List.take_length] at hd
      exact ⟨_, rfl, k _ D zs (Kp.base S04 kp fun c e => by subst e; exact nD) nD pz hd⟩
end
end OR

set_option Elab.async false
set_option maxRecDepth 100000
set_option maxHeartbeats 8000000
set_option linter.all false
namespace OR
open PySem PySem.Spec PyProof.Rows L2 TS2
theorem passF {X : Cx} {σ : L2.St} : PassesAt (L2.CX X.prog X.w) X σ (fun _ _ _ => False) := fun _ _ _ _ _ _ ⟨_, _, _, _, _, _, _, _, _, _, _, _, h⟩ => h.elim
abbrev kw3 : List Str := ["asks", "signals", "inputs"]
structure KwCls (P : Program) (w : World) (K : PySem.W.Frag) (mg : Str → Option Value) (base : Heap) (k : Nat) (x : Str) (C : Addr) (ps : List Str) (sp : Sp) : Prop where
  ex : ∃ (f : Addr) (fd : FuncData), mg x = some (.ref C) ∧ Mk K C f ∧ KBn K fd ps 2 kw3 (fun vs zs => vs ++ zs) (fun vs zs => vs ++ zs) ∧ FnOk P w K mg base (L2.CX P w) k f fd ps sp
def spLMade (K : PySem.W.Frag) : Sp := fun vs H Q _ => ∃ (sd n a s i R : Addr) (kt : Kit) (TA : AT) (TS : ST) (rows : List (Row 5)), vs = [.ref sd, .ref R] ∧ Wide K H sd n a s i R kt TA TS rows ∧ WideIs kt TA TS rows ∧
  ∀ (H' : Hp) (p : Addr), Same H H' → H p = none → PgAt K H' p (ATk TA) (STk TS) (.ref i) 5 rows → Q (.ref p) H'
def spLaw (K : PySem.W.Frag) : Sp := fun vs H Q _ => ∃ (a : Addr) (ns : List Int), vs = [.ref a] ∧ SqL K H a (ns.map V.int) ∧ ns.length ≤ 63 ∧ ∀ H', Q (.bl true) H'
/-! ### the same tables in another order -/
theorem turnA {T : AT} {ns zs : List Str} (g : AGood T ns) (pm : zs.Perm ns) : dictOf (ATk T) zs = ATk (zs.map (entA T)) ∧ AGood (zs.map (entA T)) zs ∧ ∀ z ∈ zs, entA (zs.map (entA T)) z = entA T z := by
  have inn : ∀ z ∈ zs, z ∈ T.map (·.1) := fun z hz => by rw [g.n]; exact pm.mem_iff.mp hz
  have nm : (zs.map (entA T)).map (·.1) = zs := by
    rw [List.map_map]
    refine (List.map_congr_left fun z hz => ?_).trans (List.map_id zs)
    exact (entA_in (inn z hz)).2.1
  refine ⟨?_, ⟨nm, fun x hx => ?_⟩, fun z hz => ?_⟩
  · unfold dictOf ATk
    rw [List.map_map]
    refine List.map_congr_left fun z hz => ?_
    obtain ⟨_, e2, e3⟩ := entA_in (inn z hz)
    show ((Sum.inr z : Key), (valV (ATk T) (Sum.inr z)).getD .non) = ((Sum.inr (entA T z).1 : Key), V.ref (entA T z).2.1)
    rw [e2, e3]
    rfl
  · obtain ⟨z, hz, rfl⟩ := List.mem_map.mp hx
    exact g.w _ (entA_in (inn z hz)).1
  · obtain ⟨h1, h2, _⟩ := entA_in (T := zs.map (entA T)) (z := z) (by rw [nm]; exact hz)
    obtain ⟨y, hy, e⟩ := List.mem_map.mp h1
    have ey := (entA_in (inn y hy)).2.1
    rw [← e] at h2 ⊢
    rw [← h2, ey]
theorem turnS {T : ST} {ns zs : List Str} (g : SGood T ns) (pm : zs.Perm ns) : dictOf (STk T) zs = STk (zs.map (entS T)) ∧ SGood (zs.map (entS T)) zs ∧ ∀ z ∈ zs, entS (zs.map (entS T)) z = entS T z := by
  have inn : ∀ z ∈ zs, z ∈ T.map (·.1) := fun z hz => by rw [g.n]; exact pm.mem_iff.mp hz
  have nm : (zs.map (entS T)).map (·.1) = zs := by
    rw [List.map_map]
    refine (List.map_congr_left fun z hz => ?_).trans (List.map_id zs)
    exact (entS_in (inn z hz)).2.1
  refine ⟨?_, ⟨nm, fun x hx => ?_⟩, fun z hz => ?_⟩
  · unfold dictOf STk
    rw [List.map_map]
    refine List.map_congr_left fun z hz => ?_
    obtain ⟨_, e2, e3⟩ := entS_in (inn z hz)
    show ((Sum.inr z : Key), (valV (STk T) (Sum.inr z)).getD .non) = ((Sum.inr (entS T z).1 : Key), V.ref (entS T z).2.1)
    rw [e2, e3]
    rfl
  · obtain ⟨z, hz, rfl⟩ := List.mem_map.mp hx
    exact g.w _ (entS_in (inn z hz)).1
  · obtain ⟨h1, h2, _⟩ := entS_in (T := zs.map (entS T)) (z := z) (by rw [nm]; exact hz)
    obtain ⟨y, hy, e⟩ := List.mem_map.mp h1
    have ey := (entS_in (inn y hy)).2.1
    rw [← e] at h2 ⊢
    rw [← h2, ey]
theorem turn_text {TA : AT} {TS : ST} {na ns za zs inp ya ys : List Str} {rows : List (Row 5)} (gA : AGood TA na) (gS : SGood TS ns) (pa : za.Perm na) (ps : zs.Perm ns) (qa : ya.Perm na) (qs : ys.Perm ns) : textOf (za.map (entA TA)) (zs.map (entS TS)) inp rows ya ys = textOf TA TS inp rows ya ys := by
  unfold textOf headL
  have e1 : (ya.map fun z => askL (entA (za.map (entA TA)) z)) = ya.map fun z => askL (entA TA z) := List.map_congr_left fun z hz => by rw [(turnA gA pa).2.2 z (pa.mem_iff.mpr (qa.mem_iff.mp hz))]
  have e2 : (ys.map fun z => sigL (entS (zs.map (entS TS)) z)) = ys.map fun z => sigL (entS TS z) := List.map_congr_left fun z hz => by rw [(turnS gS ps).2.2 z (ps.mem_iff.mpr (qs.mem_iff.mp hz))]
  rw [e1, e2]
theorem turn_tm {H : Hp} {TA : AT} {TS : ST} {na ns za zs : List Str} (gA : AGood TA na) (gS : SGood TS ns) (pa : za.Perm na) (ps : zs.Perm ns) (tm : ∀ x ∈ ATm TA ++ STm TS, H x.1 = some x.2) : ∀ x ∈ ATm (za.map (entA TA)) ++ STm (zs.map (entS TS)), H x.1 = some x.2 := fun x hx => by
  have iA : ∀ y ∈ za.map (entA TA), y ∈ TA := fun y hy => by
    obtain ⟨z, hz, rfl⟩ := List.mem_map.mp hy
    exact (entA_in (by rw [gA.n]; exact pa.mem_iff.mp hz)).1
  have iS : ∀ y ∈ zs.map (entS TS), y ∈ TS := fun y hy => by
    obtain ⟨z, hz, rfl⟩ := List.mem_map.mp hy
    exact (entS_in (by rw [gS.n]; exact ps.mem_iff.mp hz)).1
  refine tm x ?_
  rcases List.mem_append.mp hx with hx | hx
  · obtain ⟨y, hy, rfl⟩ := List.mem_map.mp hx
    exact List.mem_append_left _ (List.mem_map.mpr ⟨y, iA y hy, rfl⟩)
  · refine List.mem_append_right _ ?_
    rcases List.mem_append.mp hx with hx | hx
    · obtain ⟨y, hy, rfl⟩ := List.mem_map.mp hx
      exact List.mem_append_left _ (List.mem_map.mpr ⟨y, iS y hy, rfl⟩)
    · obtain ⟨y, hy, rfl⟩ := List.mem_map.mp hx
      exact List.mem_append_right _ (List.mem_map.mpr ⟨y, iS y hy, rfl⟩)
section
variable {P : Program} {w : World} {K : PySem.W.Frag} {mg : Str → Option Value} {base : Heap}
theorem ok_made {k0 kp : Nat} {f : Addr} {fd : FuncData} (F : FnP K "_law_made" "_law_made" s__law_made f fd) (T : Tx w K mg) (hp : kp + 1 ≤ k0) (KP : KwCls P w K mg base kp "Program" (He.ga K "Program") p_Program___init__ (spProgInit K 5)) : FnOk P w K mg base CX0 (k0 + 1) f fd p__law_made (spLMade K) := by
  obtain ⟨fp, fdp, mp, mkp, kbp, okp⟩ := KP.ex
  refine F.ok sc__law_made (fun vs H Q E h => ?_) (fun cdv A outer s H vs Q E hr h => ?_)
  · obtain ⟨sd, _, _, _, _, _, _, _, _, _, rfl, _⟩ := h
    rfl
  · obtain ⟨sd, n, a, s', i, R, kt, TA, TS, rows, rfl, wd, wi, k⟩ := h
    have hu := hu_of hr
    refine ⟨_, PSs.nox (pss_one (ps_ret (pe_makeKS (E := fun _ _ _ _ => False) (ks := kw3) (n := 1) mkp okp (hr.mono (by omega)) (by rfl) mp kbp (fun σ => passF) (pa_cons (pv 1) pa_nil) (pk_cons (pe_dget hu (pv 0) pe_str (fun _ _ => rfl)) (pk_cons (pe_dget hu (pv 0) pe_str (fun _ _ => rfl)) (pk_cons (pe_dget hu (pv 0) pe_str (fun _ _ => rfl)) pk_nil)))))), ?_⟩
    obtain ⟨xs, hR, rx⟩ := wd.r
    have aA : TabArg K H "asks" 6 (.ref a) (some kt.ka) := by rw [wi.ka]; exact asks_arg wi.gA wi.wA wi.lA wd.a fun x hx => wd.tm x (List.mem_append_left _ hx)
    have aS : TabArg K H "signals" 3 (.ref s') (some kt.ks) := by rw [wi.ks]; exact sigs_arg wi.gS wi.wS wi.lS wd.s fun x hx => wd.tm x (List.mem_append_right _ hx)
    have aI : ∀ H', Same H H' → WordsIs K H' 3 (.ref i) true := words_arg wd.i (ws_ne wi.i) wi.i.2.2.2 wi.i.1 wi.i.2.1
    refine ⟨_, rfl, _, rfl, sd, _, rfl, DGet.k (k := .inr "asks") wd.sd, _, rfl, sd, _, rfl, DGet.k (k := .inr "signals") wd.sd, _, rfl, sd, _, rfl, DGet.k (k := .inr "inputs") wd.sd, rfl, rfl, made wi.ok aA aS aI hR rx wi.g wi.z fun H7 Hr p dx S7 np dr sr ap => ?_⟩
    rw [wi.ka, wi.ks] at dr
    exact k H7 p S7 np ⟨Hr, dx, dr, sr⟩
theorem ok_law {k0 kp k1 k2 k3 k4 : Nat} {f : Addr} {fd : FuncData} (F : FnP K "law" "law" s_law f fd) (T : Tx w K mg) (hp : kp + 1 ≤ k0) (h0 : 1 ≤ k0) (h1 : k1 ≤ k0) (h2 : k2 ≤ k0) (h3 : k3 ≤ k0) (h4 : k4 ≤ k0) (KP : KwCls P w K mg base kp "Program" (He.ga K "Program") p_Program___init__ (spProgInit K 5))
    (G__law_wide : Def P w K mg base CX0 k1 "_law_wide" p__law_wide (spWide K)) (G__law_made : Def P w K mg base CX0 k2 "_law_made" p__law_made (spLMade K)) (G__law_text : Def P w K mg base CX0 k3 "_law_text" p__law_text (spLText K)) (G__law_turned : Def P w K mg base CX0 1 "_law_turned" p__law_turned (spTurned K)) (G_program_text : Def P w K mg base CX0 k4 "program_text" p_program_text (spText K)) : FnOk P w K mg base CX0 (k0 + 1) f fd p_law (spLaw K) := by
  obtain ⟨fp, fdp, mp, mkp, kbp, okp⟩ := KP.ex
  refine F.ok sc_law (fun vs H Q E h => ?_) (fun cdv A outer s H vs Q E hr h => ?_)
  · obtain ⟨a, ns, rfl, _⟩ := h
    rfl
  · obtain ⟨sc, ns, rfl, hsc, hl, k⟩ := h
    have hu := hu_of hr
    refine ⟨_, PSs.nox (pss_cons (ps_set (i := 1) sc_law.nd rfl (.inl rfl) (pe_fn G__law_wide (hr.mono (by omega)) (by rfl) pass0 (pa_cons (pv 0) pa_nil)))
      (pss_cons (ps_set (i := 2) sc_law.nd rfl (.inl rfl) (pe_fn G__law_made (hr.mono (by omega)) (by rfl) pass0 (pa_cons (pv 1) (pa_cons (pe_dget hu (pv 1) pe_str (fun _ _ => rfl)) pa_nil))))
      (pss_cons (ps_set (i := 3) sc_law.nd rfl (.inl rfl) (pe_fn G__law_text (hr.mono (by omega)) (by rfl) pass0 (pa_cons (pv 1) pa_nil)))
      (pss_cons (ps_set (i := 4) sc_law.nd rfl (.inl rfl) (pe_fn G_program_text (hr.mono (by omega)) (by rfl) pass0 (pa_cons (pv 2) pa_nil)))
      (pss_cons (ps_if (PW.pt (pw_or (pt_not (pt_val (pe_callB call_isi (by rfl) T.b_isinstance (by decide +kernel) (pa_cons (pv 4) (pa_cons (pe_bltn (v := .ty "str") (u := .type "str") (by rfl) T.b_str (by decide +kernel) rfl) pa_nil))))) (pw_or1 (pt_cmpR op_ne (pv 4) (pv 3) (nomark _))))) (pss_one (ps_ret pe_bl)) pss_nil)
      (pss_cons (ps_set (i := 5) sc_law.nd rfl (.inl rfl) (pe_makeKS (E := fun _ _ _ _ => False) (ks := kw3) (n := 1) mkp okp (hr.mono (by omega)) (by rfl) mp kbp (fun σ => passF) (pa_cons (pe_dget hu (pv 1) pe_str (fun _ _ => rfl)) pa_nil) (pk_cons (pe_fn G__law_turned (hr.mono (by omega)) (by rfl) pass0 (pa_cons (pe_dget hu (pv 1) pe_str (fun _ _ => rfl)) pa_nil)) (pk_cons (pe_fn G__law_turned (hr.mono (by omega)) (by rfl) pass0 (pa_cons (pe_dget hu (pv 1) pe_str (fun _ _ => rfl)) pa_nil)) (pk_cons (pe_dget hu (pv 1) pe_str (fun _ _ => rfl)) pk_nil)))))
      (pss_one (ps_ret (pe_and (pe_cmpR op_eq (pe_fn G_program_text (hr.mono (by omega)) (by rfl) pass0 (pa_cons (pv 5) pa_nil)) (pv 3) (nomark _)) (pe_one (pe_cmpR op_eq (pe_fn G_program_text (hr.mono (by omega)) (by rfl) pass0 (pa_cons (pv 2) pa_nil)) (pv 3) (nomark _)))))))))))), ?_⟩
    refine ⟨_, rfl, sc, ns, rfl, hsc, hl, fun H1 sd n a s' i R kt TA TS rows w1 wi => ?_⟩
    have t := wi.tx
    refine ⟨_, rfl, _, rfl, sd, _, rfl, DGet.k (k := .inr "rows") w1.sd, sd, n, a, s', i, R, kt, TA, TS, rows, rfl, w1, wi, fun H2 p S2 np pg2 => ?_⟩
    have w2 := w1.same S2
    refine ⟨_, rfl, sd, n, a, s', i, R, kt, TA, TS, rows, rfl, w2, wi, fun H3 ya ys S3 pa sa ps ss => ?_⟩
    have w3 := w2.same S3
    have pg3 := pg2.same S3
    refine ⟨_, rfl, p, i, TA, TS, kt.asks, kt.sigs, kt.inputs, rows, rfl, pg3, w3.tm, w3.i, t, fun H4 ya4 ys4 S4 pa4 sa4 ps4 ss4 => ?_⟩
    obtain rfl := sorted_one sa4 sa pa4 pa
    obtain rfl := sorted_one ss4 ss ps4 ps
    have w4 := w3.same S4
    have pg4 := pg3.same S4
    refine ⟨_, rfl, .str (textOf TA TS kt.inputs rows ya4 ys4), .ty "str", _, _, true, rfl, .ty _, .base (.str _), kit_ty (by decide +kernel), _, rfl, ?_⟩
    refine iteF ?_
    refine ⟨_, rfl, _, rfl, rfl, _, rfl, ?_⟩
    refine iteF' (by simp) ?_
    obtain ⟨xs, hR, rx⟩ := w4.r
    refine ⟨_, rfl, sd, _, rfl, DGet.k (k := .inr "rows") w4.sd, _, rfl, sd, _, rfl, DGet.k (k := .inr "asks") w4.sd, a, _, kt.asks, rfl, w4.a, atk_keys t.gA, t.nA, by have := t.lA; omega, fun H5 D1 za S5 n5 qa hD1 => ?_⟩
    have w5 := w4.same S5
    refine ⟨_, rfl, sd, _, rfl, DGet.k (k := .inr "signals") w5.sd, s', _, kt.sigs, rfl, w5.s, stk_keys t.gS, t.nS, by have := t.lS; omega, fun H6 D2 zs S6 n6 qs hD2 => ?_⟩
    have w6 := w5.same S6
    have hD1 := S6 _ _ hD1
    obtain ⟨ea, ga, la⟩ := turnA t.gA qa
    obtain ⟨es, gs, ls⟩ := turnS t.gS qs
    rw [ea] at hD1
    rw [es] at hD2
    have tm6 := turn_tm t.gA t.gS qa qs w6.tm
    have t2 : TxIs (za.map (entA TA)) (zs.map (entS TS)) za zs kt.inputs rows := ⟨ga, gs, fun z hz => t.wA z (qa.mem_iff.mp hz), fun z hz => t.wS z (qs.mem_iff.mp hz), qa.nodup_iff.mpr t.nA, qs.nodup_iff.mpr t.nS, by rw [qa.length_eq]; exact t.lA, by rw [qs.length_eq]; exact t.lS, t.i, t.g, t.z⟩
    have sb : kt.Sub ⟨ATk (za.map (entA TA)), STk (zs.map (entS TS)), za, zs, kt.gates, kt.inputs, kt.labels, kt.slots, kt.words, 5⟩ := ⟨fun z hz => qa.mem_iff.mpr hz, fun z hz => qs.mem_iff.mpr hz, fun _ h => h, fun _ h => h, fun _ h => h⟩
    have ok2 : (⟨ATk (za.map (entA TA)), STk (zs.map (entS TS)), za, zs, kt.gates, kt.inputs, kt.labels, kt.slots, kt.words, 5⟩ : Kit).Ok := ⟨atk_keys ga, stk_keys gs, wi.ok.n, wi.ok.l3, wi.ok.s2, wi.ok.g2, Nat.le_refl 5⟩
    have aA : TabArg K H6 "asks" 6 (.ref D1) (some (ATk (za.map (entA TA)))) := asks_arg ga t2.wA t2.lA hD1 fun x hx => tm6 x (List.mem_append_left _ hx)
    have aS : TabArg K H6 "signals" 3 (.ref D2) (some (STk (zs.map (entS TS)))) := sigs_arg gs t2.wS t2.lS hD2 fun x hx => tm6 x (List.mem_append_right _ hx)
    have aI : ∀ H', Same H6 H' → WordsIs K H' 3 (.ref i) true := words_arg w6.i (ws_ne wi.i) wi.i.2.2.2 wi.i.1 wi.i.2.1
    have S46 := S5.trans S6
    refine ⟨_, rfl, sd, _, rfl, DGet.k (k := .inr "inputs") w6.sd, rfl, rfl, made ok2 aA aS aI (S46 _ _ hR) (rx.imp fun _ _ _ q => RowAt.mono S46 q) (fun x hx => Good.sub sb 5 false x (wi.g x hx)) wi.z fun H7 Hr p2 dx2 S7 np2 dr sr ap => ?_⟩
    have w7 := w6.same S7
    refine ⟨_, rfl, p2, i, za.map (entA TA), zs.map (entS TS), za, zs, kt.inputs, rows, rfl, ⟨Hr, dx2, dr, sr⟩, turn_tm t.gA t.gS qa qs w7.tm, w7.i, t2, fun H8 yb zb S8 pb sb ps8 sc8 => ?_⟩
    have pb' := pb.trans qa
    have ps8' := ps8.trans qs
    rw [turn_text t.gA t.gS qa qs pb' ps8']
    obtain rfl := sorted_one sb sa4 pb' pa4
    obtain rfl := sorted_one sc8 ss4 ps8' ps4
    refine ⟨_, rfl, rfl, _, rfl, ?_⟩
    rw [if_pos (by simp)]
    have S28 := (S3.trans S4).trans (S46.trans (S7.trans S8))
    have w8 := w7.same S8
    refine ⟨_, rfl, p, i, TA, TS, kt.asks, kt.sigs, kt.inputs, rows, rfl, pg2.same S28, w8.tm, w8.i, t, fun H9 yc zc S9 pc sc9 pz9 sz9 => ?_⟩
    obtain rfl := sorted_one sc9 sb pc pb'
    obtain rfl := sorted_one sz9 sc8 pz9 ps8'
    refine ⟨_, rfl, rfl, ?_⟩
    rw [decide_eq_true rfl]
    exact k H9
end
end OR

set_option Elab.async false
set_option linter.all false
set_option maxRecDepth 100000
set_option maxHeartbeats 0
namespace OR
open PySem PySem.Spec PyProof.Rows L2 TS2
/-! ### the head: facts by names, the run -/

abbrev sIP : Stmt := inClass (top 4) 0
def dIP : He.DefD := ⟨("InvalidProgram", some "__init__"), "__init__", "InvalidProgram.__init__", defArgs sIP, defBody sIP, defScope sIP, [], []⟩
def d_lists_of : He.DefD := ⟨("lists_of", none), "lists_of", "lists_of", defArgs s_lists_of, defBody s_lists_of, defScope s_lists_of, [], []⟩
def d_with_lists : He.DefD := ⟨("with_lists", none), "with_lists", "with_lists", defArgs s_with_lists, defBody s_with_lists, defScope s_with_lists, [], []⟩
def d_words_named : He.DefD := ⟨("words_named", none), "words_named", "words_named", defArgs s_words_named, defBody s_words_named, defScope s_words_named, [], []⟩
def d_copied : He.DefD := ⟨("copied", none), "copied", "copied", defArgs s_copied, defBody s_copied, defScope s_copied, [], []⟩
def d_is_word : He.DefD := ⟨("is_word", none), "is_word", "is_word", defArgs s_is_word, defBody s_is_word, defScope s_is_word, [], []⟩
def d_is_integer : He.DefD := ⟨("is_integer", none), "is_integer", "is_integer", defArgs s_is_integer, defBody s_is_integer, defScope s_is_integer, [], []⟩
def d_are_words : He.DefD := ⟨("are_words", none), "are_words", "are_words", defArgs s_are_words, defBody s_are_words, defScope s_are_words, [], []⟩
def d_RowCheck___init__ : He.DefD := ⟨("RowCheck", some "__init__"), "__init__", "RowCheck.__init__", defArgs s_RowCheck___init__, defBody s_RowCheck___init__, defScope s_RowCheck___init__, [], []⟩
def d_RowCheck_check_rows : He.DefD := ⟨("RowCheck", some "check_rows"), "check_rows", "RowCheck.check_rows", defArgs s_RowCheck_check_rows, defBody s_RowCheck_check_rows, defScope s_RowCheck_check_rows, [], []⟩
def d_RowCheck_check_list : He.DefD := ⟨("RowCheck", some "check_list"), "check_list", "RowCheck.check_list", defArgs s_RowCheck_check_list, defBody s_RowCheck_check_list, defScope s_RowCheck_check_list, [], []⟩
def d_RowCheck_has_form : He.DefD := ⟨("RowCheck", some "has_form"), "has_form", "RowCheck.has_form", defArgs s_RowCheck_has_form, defBody s_RowCheck_has_form, defScope s_RowCheck_has_form, [], []⟩
def d_RowCheck_fits : He.DefD := ⟨("RowCheck", some "fits"), "fits", "RowCheck.fits", defArgs s_RowCheck_fits, defBody s_RowCheck_fits, defScope s_RowCheck_fits, [], []⟩
def d_RowCheck_is_new : He.DefD := ⟨("RowCheck", some "is_new"), "is_new", "RowCheck.is_new", defArgs s_RowCheck_is_new, defBody s_RowCheck_is_new, defScope s_RowCheck_is_new, [], []⟩
def d_are_sides : He.DefD := ⟨("are_sides", none), "are_sides", "are_sides", defArgs s_are_sides, defBody s_are_sides, defScope s_are_sides, [], []⟩
def d_may_stand : He.DefD := ⟨("may_stand", none), "may_stand", "may_stand", defArgs s_may_stand, defBody s_may_stand, defScope s_may_stand, [], []⟩
def d_Plan___init__ : He.DefD := ⟨("Plan", some "__init__"), "__init__", "Plan.__init__", defArgs s_Plan___init__, defBody s_Plan___init__, defScope s_Plan___init__, [], []⟩
def d_Plan_lay_list : He.DefD := ⟨("Plan", some "lay_list"), "lay_list", "Plan.lay_list", defArgs s_Plan_lay_list, defBody s_Plan_lay_list, defScope s_Plan_lay_list, [], []⟩
def d_Plan_lay_row : He.DefD := ⟨("Plan", some "lay_row"), "lay_row", "Plan.lay_row", defArgs s_Plan_lay_row, defBody s_Plan_lay_row, defScope s_Plan_lay_row, [], []⟩
def d_size_of : He.DefD := ⟨("size_of", none), "size_of", "size_of", defArgs s_size_of, defBody s_size_of, defScope s_size_of, [], []⟩
def d_end_within : He.DefD := ⟨("end_within", none), "end_within", "end_within", defArgs s_end_within, defBody s_end_within, defScope s_end_within, [], []⟩
def d_Draft___init__ : He.DefD := ⟨("Draft", some "__init__"), "__init__", "Draft.__init__", defArgs s_Draft___init__, defBody s_Draft___init__, defScope s_Draft___init__, [], []⟩
def d_checked_table : He.DefD := ⟨("checked_table", none), "checked_table", "checked_table", defArgs s_checked_table, defBody s_checked_table, defScope s_checked_table, [], []⟩
def d_is_entry : He.DefD := ⟨("is_entry", none), "is_entry", "is_entry", defArgs s_is_entry, defBody s_is_entry, defScope s_is_entry, [], []⟩
def d_named_in : He.DefD := ⟨("named_in", none), "named_in", "named_in", defArgs s_named_in, defBody s_named_in, defScope s_named_in, [], []⟩
def d_check_sizes : He.DefD := ⟨("check_sizes", none), "check_sizes", "check_sizes", defArgs s_check_sizes, defBody s_check_sizes, defScope s_check_sizes, [], []⟩
def d_Program___init__ : He.DefD := ⟨("Program", some "__init__"), "__init__", "Program.__init__", defArgs s_Program___init__, defBody s_Program___init__, defScope s_Program___init__, [], []⟩
def d_Program_rows : He.DefD := ⟨("Program", some "rows"), "rows", "Program.rows", defArgs s_Program_rows, defBody s_Program_rows, defScope s_Program_rows, [], []⟩
def d_Program_asks : He.DefD := ⟨("Program", some "asks"), "asks", "Program.asks", defArgs s_Program_asks, defBody s_Program_asks, defScope s_Program_asks, [], []⟩
def d_Program_signals : He.DefD := ⟨("Program", some "signals"), "signals", "Program.signals", defArgs s_Program_signals, defBody s_Program_signals, defScope s_Program_signals, [], []⟩
def d_Program_inputs : He.DefD := ⟨("Program", some "inputs"), "inputs", "Program.inputs", defArgs s_Program_inputs, defBody s_Program_inputs, defScope s_Program_inputs, [], []⟩
def d_program_text : He.DefD := ⟨("program_text", none), "program_text", "program_text", defArgs s_program_text, defBody s_program_text, defScope s_program_text, [], []⟩
def d_lines_of : He.DefD := ⟨("lines_of", none), "lines_of", "lines_of", defArgs s_lines_of, defBody s_lines_of, defScope s_lines_of, [], []⟩
def d_words_in : He.DefD := ⟨("words_in", none), "words_in", "words_in", defArgs s_words_in, defBody s_words_in, defScope s_words_in, [], []⟩
def d_inner_lines : He.DefD := ⟨("inner_lines", none), "inner_lines", "inner_lines", defArgs s_inner_lines, defBody s_inner_lines, defScope s_inner_lines, [], []⟩
def d__law_pool : He.DefD := ⟨("_law_pool", none), "_law_pool", "_law_pool", defArgs s__law_pool, defBody s__law_pool, defScope s__law_pool, [], []⟩
def d__law_draw : He.DefD := ⟨("_law_draw", none), "_law_draw", "_law_draw", defArgs s__law_draw, defBody s__law_draw, defScope s__law_draw, [], []⟩
def d__law_item : He.DefD := ⟨("_law_item", none), "_law_item", "_law_item", defArgs s__law_item, defBody s__law_item, defScope s__law_item, [], []⟩
def d__law_names : He.DefD := ⟨("_law_names", none), "_law_names", "_law_names", defArgs s__law_names, defBody s__law_names, defScope s__law_names, [], []⟩
def d__law_parts : He.DefD := ⟨("_law_parts", none), "_law_parts", "_law_parts", defArgs s__law_parts, defBody s__law_parts, defScope s__law_parts, [], []⟩
def d__law_pair : He.DefD := ⟨("_law_pair", none), "_law_pair", "_law_pair", defArgs s__law_pair, defBody s__law_pair, defScope s__law_pair, [], []⟩
def d__law_race : He.DefD := ⟨("_law_race", none), "_law_race", "_law_race", defArgs s__law_race, defBody s__law_race, defScope s__law_race, [], []⟩
def d__law_plain : He.DefD := ⟨("_law_plain", none), "_law_plain", "_law_plain", defArgs s__law_plain, defBody s__law_plain, defScope s__law_plain, [], []⟩
def d__law_some : He.DefD := ⟨("_law_some", none), "_law_some", "_law_some", defArgs s__law_some, defBody s__law_some, defScope s__law_some, [], []⟩
def d__law_block : He.DefD := ⟨("_law_block", none), "_law_block", "_law_block", defArgs s__law_block, defBody s__law_block, defScope s__law_block, [], []⟩
def d__law_spec : He.DefD := ⟨("_law_spec", none), "_law_spec", "_law_spec", defArgs s__law_spec, defBody s__law_spec, defScope s__law_spec, [], []⟩
def d__law_made : He.DefD := ⟨("_law_made", none), "_law_made", "_law_made", defArgs s__law_made, defBody s__law_made, defScope s__law_made, [], []⟩
def d__law_lists : He.DefD := ⟨("_law_lists", none), "_law_lists", "_law_lists", defArgs s__law_lists, defBody s__law_lists, defScope s__law_lists, [], []⟩
def d__law_lines : He.DefD := ⟨("_law_lines", none), "_law_lines", "_law_lines", defArgs s__law_lines, defBody s__law_lines, defScope s__law_lines, [], []⟩
def d__law_head : He.DefD := ⟨("_law_head", none), "_law_head", "_law_head", defArgs s__law_head, defBody s__law_head, defScope s__law_head, [], []⟩
def d__law_text : He.DefD := ⟨("_law_text", none), "_law_text", "_law_text", defArgs s__law_text, defBody s__law_text, defScope s__law_text, [], []⟩
def d__law_wide : He.DefD := ⟨("_law_wide", none), "_law_wide", "_law_wide", defArgs s__law_wide, defBody s__law_wide, defScope s__law_wide, [], []⟩
def d__law_turned : He.DefD := ⟨("_law_turned", none), "_law_turned", "_law_turned", defArgs s__law_turned, defBody s__law_turned, defScope s__law_turned, [], []⟩
def d_law : He.DefD := ⟨("law", none), "law", "law", defArgs s_law, defBody s_law, defScope s_law, [], []⟩
def fn : List He.DefD := ([dIP, d_lists_of, d_with_lists, d_words_named, d_copied, d_is_word, d_is_integer, d_are_words, d_RowCheck___init__, d_RowCheck_check_rows, d_RowCheck_check_list, d_RowCheck_has_form, d_RowCheck_fits, d_RowCheck_is_new, d_are_sides, d_may_stand, d_Plan___init__, d_Plan_lay_list, d_Plan_lay_row, d_size_of] : List He.DefD) ++ ([d_end_within, d_Draft___init__, d_checked_table, d_is_entry, d_named_in, d_check_sizes, d_Program___init__, d_Program_rows, d_Program_asks, d_Program_signals, d_Program_inputs, d_program_text, d_lines_of, d_words_in, d_inner_lines, d__law_pool, d__law_draw, d__law_item, d__law_names, d__law_parts] : List He.DefD) ++ ([d__law_pair, d__law_race, d__law_plain, d__law_some, d__law_block, d__law_spec, d__law_made, d__law_lists, d__law_lines, d__law_head, d__law_text, d__law_wide, d__law_turned, d_law] : List He.DefD)
def fa : List He.Fa := ([.glo "InvalidProgram", .glo "Program", .glo "Draft", .glo "RowCheck", .glo "Plan", .glo "FORMS", .glo "DIVIDERS", .glo "INNER", .glo "SEVERAL", .glo "lists_of", .glo "with_lists", .glo "words_named", .glo "copied", .glo "is_word", .glo "is_integer", .glo "are_words", .glo "are_sides", .glo "may_stand", .glo "size_of", .glo "end_within"] : List He.Fa) ++ ([.glo "checked_table", .glo "is_entry", .glo "named_in", .glo "check_sizes", .glo "program_text", .glo "lines_of", .glo "words_in", .glo "inner_lines", .glo "_law_pool", .glo "_law_draw", .glo "_law_item", .glo "_law_names", .glo "_law_parts", .glo "_law_pair", .glo "_law_race", .glo "_law_plain", .glo "_law_some", .glo "_law_block", .glo "_law_spec", .glo "_law_made"] : List He.Fa) ++ ([.glo "_law_lists", .glo "_law_lines", .glo "_law_head", .glo "_law_text", .glo "_law_wide", .glo "_law_turned", .glo "law", .free "isinstance", .free "str", .free "int", .free "bool", .free "tuple", .free "list", .free "dict", .free "len", .free "all", .free "zip", .free "enumerate", .free "range", .free "sorted"] : List He.Fa) ++ ([.free "set", .free "sum", .noat "InvalidProgram" "part", .noat "InvalidProgram" "path", .int "THROUGH" (-1), .int "FINISH" (-2), .int "MOST_ASKS" (6), .int "MOST_ANSWERS" (4), .int "MOST_SIGNALS" (3), .int "MOST_ROOM" (3), .int "MOST_SIGNAL_WORDS" (3), .int "MOST_INPUTS" (3), .int "MOST_ROWS" (60), .int "MOST_LABELS" (6), .int "MOST_SLOTS" (4), .int "MOST_GATES" (8), .int "DEEPEST" (5), .int "MOST_IN_ROW" (3), .int "LONGEST_WORD" (8), .str "STEP" "  "] : List He.Fa) ++ ([.str "EDIT" "edit", .str "INPUT_SLOT" "in", .cls "RowCheck", .mkr "RowCheck", .noat "RowCheck" "ask_table", .noat "RowCheck" "signal_table", .noat "RowCheck" "with_edits", .noat "RowCheck" "seen_edits", .noat "RowCheck" "seen_gates", .cls "Plan", .mkr "Plan", .noat "Plan" "flat", .noat "Plan" "places", .noat "Plan" "behind", .noat "Plan" "entries", .noat "Plan" "sides", .noat "Plan" "starts", .noat "Plan" "numbers", .cls "Program", .mkr "Program"] : List He.Fa) ++ ([.noat "Program" "ask_table", .noat "Program" "signal_table", .noat "Program" "input_words", .noat "Program" "row_list", .noat "Program" "plan", .noat "Program" "name_table", .meth "RowCheck" "check_rows", .meth "RowCheck" "check_list", .meth "RowCheck" "has_form", .meth "RowCheck" "fits", .meth "RowCheck" "is_new", .meth "Plan" "lay_list", .meth "Plan" "lay_row", .meth "Program" "rows", .meth "Program" "asks", .meth "Program" "signals", .meth "Program" "inputs"] : List He.Fa)
def ts : List He.Tab := [(fun K => He.ga K "FORMS", ["ask", "timer", "await", "first", "drop", "take", "note", "put", "if", "loop", "leave", "part", "both", "gate", "past", "edit", "end", "anew"]), (fun K => He.ga K "DIVIDERS", ["if", "gate"])]
def tupV (K : PySem.W.Frag) (v : Value) (vs : List V) : Bool := match v with
  | .ref p => match K.lookup p with
    | some ⟨.type c, _, .seq its _, _⟩ => decide (c = "tuple") && (decide (its.size ≤ sizeLine) && He.relAll vs its.toList)
    | _ => false
  | _ => false
theorem tupV_ok {K : PySem.W.Frag} {v : Value} {vs : List V} (h : tupV K v vs = true) : ∃ p, v = .ref p ∧ ∀ H, SqT K H p vs := by
  unfold tupV at h
  cases v with
  | ref p =>
    refine ⟨p, rfl, fun H => ?_⟩
    cases q : K.lookup p with
    | none =>
      simp only [q] at h
      cases h
    | some o =>
      obtain ⟨oc, od, dt, osl⟩ := o
      simp only [q] at h
      cases oc with
      | type c =>
        cases dt with
        | seq its n =>
          obtain ⟨h1, h2⟩ := He.ba (show (decide (c = "tuple") && (decide (its.size ≤ sizeLine) && He.relAll vs its.toList)) = true from h)
          obtain ⟨h3, h4⟩ := He.ba h2
          exact .inr ⟨_, its, n, q, congrArg Value.type (of_decide_eq_true h1), rfl, of_decide_eq_true h3, He.relAll_ok h4⟩
        | _ => cases h
      | _ => cases dt <;> cases h
  | _ => cases h
def hasT (K : PySem.W.Frag) (d : Addr) (q : Str × List V) : Bool := match PySem.W.nsIn K d q.1 with
  | some (some v) => tupV K v q.2
  | _ => false
theorem hasT_ok {K : PySem.W.Frag} {d : Addr} {x : Str} {vs : List V} (h : hasT K d (x, vs) = true) : ∃ p, PySem.W.nsIn K d x = some (some (.ref p)) ∧ ∀ H, SqT K H p vs := by
  unfold hasT at h
  split at h
  · rename_i v e
    obtain ⟨p, rfl, q⟩ := tupV_ok h
    exact ⟨p, e, q⟩
  · cases h
def hasS (K : PySem.W.Frag) (d : Addr) (q : Str × Str) : Bool := match PySem.W.nsIn K d q.1 with
  | some (some (.str y _)) => decide (y = q.2)
  | _ => false
theorem hasS_ok {K : PySem.W.Frag} {d : Addr} {x z : Str} (h : hasS K d (x, z) = true) : ∃ u, PySem.W.nsIn K d x = some (some u) ∧ RelV (.str z) u := by
  unfold hasS at h
  split at h
  · rename_i y t e
    have := of_decide_eq_true h
    subst this
    exact ⟨_, e, ⟨_, rfl⟩⟩
  · cases h
def noK (K : PySem.W.Frag) (d : Addr) (x : Str) : Bool := He.eqO (PySem.W.nsIn K d x) (some none)

def xcB (K : PySem.W.Frag) (D : Addr) : Bool := He.eqO (PySem.W.findIn K (.ref D) "__class__") (some (some (.builtin "object.__class__"))) && (He.eqO (PySem.W.specialIn K (.builtin "object.__class__") "__get__") (some (some (.builtin "getset_descriptor.__get__"))) && (decide (PySem.W.takesIn K (.builtin "object.__class__") = some true) && decide (PySem.W.mroIn K D (.type "object") = some true)))
structure XcF (K : PySem.W.Frag) (D : Addr) : Prop where
  ha : PySem.W.findIn K (.ref D) "__class__" = some (some (.builtin "object.__class__"))
  hn : PySem.W.specialIn K (.builtin "object.__class__") "__get__" = some (some (.builtin "getset_descriptor.__get__"))
  ht : PySem.W.takesIn K (.builtin "object.__class__") = some true
  hm : PySem.W.mroIn K D (.type "object") = some true
theorem xcB_ok {K : PySem.W.Frag} {D : Addr} (h : xcB K D = true) : XcF K D := by
  obtain ⟨h1, h⟩ := He.ba h
  obtain ⟨h2, h⟩ := He.ba h
  obtain ⟨h3, h4⟩ := He.ba h
  exact ⟨He.eqO_ok h1, He.eqO_ok h2, of_decide_eq_true h3, of_decide_eq_true h4⟩
abbrev cDr (K : PySem.W.Frag) : Addr := He.ga K "Draft"
abbrev cFo (K : PySem.W.Frag) : Addr := He.ga K "FORMS"
/-- the keywords' defaults that are told -/
def kwV (K : PySem.W.Frag) (v : Value) : Bool := match v with
  | .ref D => He.eqO (PySem.W.nsIn K D "asks") (some (some .none)) && (He.eqO (PySem.W.nsIn K D "signals") (some (some .none)) && hasT K D ("inputs", [.str "go"]))
  | _ => false
def kwB (K : PySem.W.Frag) (C : Str) : Bool := match K.lookup (He.fAd K (C, some "__init__")) with
  | some ⟨_, _, .func fd, _⟩ => kwV K fd.kwdefaults
  | _ => false
def drB (K : PySem.W.Frag) : Bool := PySem.W.readsIn K (cDr K) (.type "type") && (He.eqO (PySem.W.specialIn K (.ref (cDr K)) "__getattribute__") (some (some (.builtin "type.__getattribute__"))) &&
  (match PySem.W.findCls K (.ref (cDr K)) (.type "type") "__init__" with
    | some (.val v) => decide (v = .ref (He.fAd K ("Draft", some "__init__")))
    | _ => false))
theorem drB_ok {K : PySem.W.Frag} (h : drB K = true) : ClX.CRead K (cDr K) (.type "type") ∧ PySem.W.findCls K (.ref (cDr K)) (.type "type") "__init__" = some (.val (.ref (He.fAd K ("Draft", some "__init__")))) := by
  obtain ⟨h1, h⟩ := He.ba h
  obtain ⟨h2, h3⟩ := He.ba h
  refine ⟨⟨h1, He.eqO_ok h2⟩, ?_⟩
  split at h3
  · rename_i v e
    rw [e, of_decide_eq_true h3]
  · cases h3
def ex0 (K : PySem.W.Frag) : Bool := (ftab.all (fun e => hasT K (cFo K) (e.1, e.2.map V.str))) && ((He.errB K (cIP K)) && ((He.iniB K (cIP K)) && ((xcB K (cP K)) && ((decide (PySem.W.kitOne K (.ref (cP K)) (.ref (cP K)) = some true)) && ((tupV K (.ref (He.ga K "INNER")) [.str "rows", .str "sides"]) && ((tupV K (.ref (He.ga K "SEVERAL")) [.str "labels", .str "words"]) && ((hasS K (He.ga K "DIVIDERS") ("if", "else")) && ((hasS K (He.ga K "DIVIDERS") ("gate", "old")) && (drB K)))))))))
def ex1 (K : PySem.W.Frag) : Bool := kwB K "Program"
def ex (K : PySem.W.Frag) : Bool := (ex0 K) && (ex1 K)
structure ExF (K : PySem.W.Frag) : Prop where
  forms : ∀ e ∈ ftab, ∃ p, PySem.W.nsIn K (cFo K) e.1 = some (some (.ref p)) ∧ ∀ H, SqT K H p (e.2.map V.str)
  errIP : ErrC K (cIP K)
  iniIP : He.iniB K (cIP K) = true
  xcP : XcF K (cP K)
  kPP : PySem.W.kitOne K (.ref (cP K)) (.ref (cP K)) = some true
  inner : ∃ p, Value.ref (He.ga K "INNER") = .ref p ∧ ∀ H, SqT K H p [.str "rows", .str "sides"]
  several : ∃ p, Value.ref (He.ga K "SEVERAL") = .ref p ∧ ∀ H, SqT K H p [.str "labels", .str "words"]
  dIf : ∃ u, PySem.W.nsIn K (He.ga K "DIVIDERS") "if" = some (some u) ∧ RelV (.str "else") u
  dGate : ∃ u, PySem.W.nsIn K (He.ga K "DIVIDERS") "gate" = some (some u) ∧ RelV (.str "old") u
  dr : drB K = true
  kPr : kwB K "Program" = true
theorem ex_ok {K : PySem.W.Frag} (h : ex K = true) : ExF K := by
  obtain ⟨g0, h⟩ := He.ba h
  have g1 := h
  obtain ⟨h0, g0⟩ := He.ba g0
  obtain ⟨h1, g0⟩ := He.ba g0
  obtain ⟨h2, g0⟩ := He.ba g0
  obtain ⟨h3, g0⟩ := He.ba g0
  obtain ⟨h4, g0⟩ := He.ba g0
  obtain ⟨h5, g0⟩ := He.ba g0
  obtain ⟨h6, g0⟩ := He.ba g0
  obtain ⟨h7, g0⟩ := He.ba g0
  obtain ⟨h8, g0⟩ := He.ba g0
  have h9 := g0
  have h10 := g1
  exact ⟨fun e he => hasT_ok (List.all_eq_true.mp h0 e he), He.errB_ok h1, h2, xcB_ok h3, of_decide_eq_true h4, tupV_ok h5, tupV_ok h6, hasS_ok h7, hasS_ok h8, h9, h10⟩

abbrev Row0 : PySem.W.OpenRow := PySem.W.OpenLaw.row PySem.Challenge.rw_openruns_k18_program_text
/-- the places of the heap that the facts read (found by dropping places, natively: Ev18.lean) -/
def asZ : List Addr := [3, 31, 44, 63, 85, 111, 118, 125, 130, 135, 142, 147, 197, 206, 213, 242, 251, 258, 275, 286, 293, 298, 305, 406, 409, 410, 411, 416, 423, 430, 437, 444, 451, 458, 465, 472, 479, 486, 493, 500, 507, 514, 521, 526, 536, 543, 550, 557, 564, 571, 30, 43, 62, 86, 87, 88, 89, 90, 91, 92, 93, 94, 95, 96, 97, 98, 99, 100, 101, 102, 104, 110, 117, 124, 129, 134, 141, 146, 196, 205, 212, 241, 250, 257, 274, 285, 292, 297, 304, 405, 415, 422, 429, 436, 443, 450, 457, 464, 471, 478, 485, 492, 499, 506, 513, 520, 525, 535, 542, 549, 556, 563, 570, 60, 161, 168, 175, 180, 187, 194, 225, 232, 239, 272, 321, 328, 335, 342, 349, 59, 160, 167, 174, 179, 186, 193, 224, 231, 238, 271, 320, 314, 327, 334, 341, 348, 313, 2]
def frZ (g : Addr → Option Obj) : PySem.W.Frag := He.frT g asZ
section
variable (fa : List He.Fa) (fn : List He.DefD) (ts : List He.Tab) (ex : PySem.W.Frag → Bool)
def obsZ (g : Addr → Option Obj) : He.AlX := (He.obsT fa fn ts (frZ g), ex (frZ g))
structure SaysZ (w : World) (K : PySem.W.Frag) : Prop where
  t : He.SaysT fa fn ts w K
  more : ex K = true
theorem saysZ_of {w : World} {h : Heap} (e : obsZ fa fn ts ex h.get? = He.valX fn ts w) : SaysZ fa fn ts ex w (frZ h.get?) := by
  have e1 : He.obsT fa fn ts (frZ h.get?) = He.valT fn ts w := congrArg (fun z : He.AlX => z.1) e
  have e2 : ex (frZ h.get?) = true := congrArg (fun z : He.AlX => z.2) e
  exact ⟨e1, e2⟩
def hookZ : PySem.W.Hook where
  α := He.AlX
  obs := fun s => obsZ fa fn ts ex s.heap.get?
  val := fun w => He.valX fn ts w
  says := fun w h => ∃ K : PySem.W.Frag, K.In h ∧ SaysZ fa fn ts ex w K
  of := fun _ _ e => ⟨_, He.frT_in, saysZ_of fa fn ts ex e⟩
  keeps := fun _ _ _ ⟨K, hK, c⟩ k => ⟨K, PySem.W.Frag.In.keeps hK k, c⟩
theorem obsZ_eq {g : Addr → Option Obj} {s : Shared} (h : ∀ a, g a = s.heap.get? a) : obsZ fa fn ts ex g = (hookZ fa fn ts ex).obs s := by
  have e : g = s.heap.get? := funext h
  rw [e] <;> rfl
end
abbrev hk : PySem.W.Hook := hookZ fa fn ts ex
def ob (s : PySem.W.SharedT) : He.AlX := obsZ fa fn ts ex (HandSHeadRun.getT s)
theorem ob_eq (s : PySem.W.SharedT) : ob s = hk.obs s.abs := obsZ_eq fa fn ts ex (HandSHeadRun.getT_eq s)

def loose : List Str := (["_wall", "OpenError", "InputError", "InvalidProgram", "InvalidArgument", "FORMS", "EDIT", "INPUT_SLOT", "lists_of", "with_lists", "words_named", "copied", "LONGEST_WORD", "is_word", "is_integer", "are_words", "DEEPEST", "MOST_IN_ROW", "RowCheck", "are_sides"] : List Str) ++ (["may_stand", "THROUGH", "FINISH", "Plan", "size_of", "end_within", "MOST_ASKS", "MOST_ANSWERS", "MOST_SIGNALS", "MOST_ROOM", "MOST_SIGNAL_WORDS", "MOST_INPUTS", "MOST_ROWS", "MOST_LABELS", "MOST_SLOTS", "MOST_GATES", "Draft", "checked_table", "is_entry", "named_in"] : List Str) ++ (["check_sizes", "Program", "STEP", "SEVERAL", "INNER", "DIVIDERS", "program_text", "lines_of", "words_in", "inner_lines", "_law_pool", "_law_draw", "_law_item", "_law_names", "_law_parts", "_law_pair", "_law_race", "_law_plain", "_law_some", "_law_block"] : List Str) ++ (["_law_spec", "_law_made", "_law_lists", "_law_with", "_law_lines", "_law_head", "_law_text", "_law_wide", "_law_turned"] : List Str)
end OR

set_option Elab.async false
set_option linter.all false
set_option maxRecDepth 100000
set_option maxHeartbeats 0
namespace OR
open PySem PySem.Spec PyProof.Rows L2 TS2
theorem run_of {α β γ δ : Type} {o : Option α} {A : α → β} {B : α → γ} {C : α → δ} {a : β} {b : γ} {c : δ} (h1 : o.map A = some a) (h2 : o.map B = some b) (h3 : o.map C = some c) : o.map (fun s => (A s, B s, C s)) = some (a, b, c) := by
  cases o with
  | none => cases h1
  | some s =>
    cases h1
    cases h2
    cases h3
    rfl
theorem no_A (w : World) (os : OsState) : (HandSHeadRun.endF (HandSHeadRun.stepQ (HandSHeadRun.denQ HandSHeadRun.tabQ) Row0.prog (w.withFollow "special-get-raises" false)) 12000 Row0.prog (w.withFollow "special-get-raises" false) os).map (fun s => HandSHeadRun.looksF Row0.prog (PySem.W.boot_heap (w.withFollow "special-get-raises" false).params) s.abs) = some true := by
  kernel_rfl
theorem no_B (w : World) (os : OsState) : (HandSHeadRun.endF (HandSHeadRun.stepQ (HandSHeadRun.denQ HandSHeadRun.tabQ) Row0.prog (w.withFollow "special-get-raises" false)) 12000 Row0.prog (w.withFollow "special-get-raises" false) os).map (fun s => HandSHeadRun.seenQ (PySem.W.view Row0.prog [78]) loose (PySem.importedModules Row0.prog.main.body) (fun s => PySem.W.xlAt (PySem.W.view Row0.prog [78]) [] s && PySem.W.recOk Row0.toRowW.records s) s.abs) = some (PySem.W.openGood (PySem.W.view Row0.prog [78]) loose) := by
  kernel_rfl
theorem no_C (w : World) (os : OsState) : (HandSHeadRun.endF (HandSHeadRun.stepQ (HandSHeadRun.denQ HandSHeadRun.tabQ) Row0.prog (w.withFollow "special-get-raises" false)) 12000 Row0.prog (w.withFollow "special-get-raises" false) os).map (fun s => ob s) = some (hk.val (w.withFollow "special-get-raises" false)) := by
  kernel_rfl
theorem run_no (w : World) : HandSHeadRun.RunEq Row0 (PySem.W.view Row0.prog [78]) hk ob 12000 loose (w.withFollow "special-get-raises" false) := fun os => run_of (no_A w os) (no_B w os) (no_C w os)
theorem yes_A (w : World) (os : OsState) : (HandSHeadRun.endF (HandSHeadRun.stepQ (HandSHeadRun.denQ HandSHeadRun.tabQ) Row0.prog (w.withFollow "special-get-raises" true)) 12000 Row0.prog (w.withFollow "special-get-raises" true) os).map (fun s => HandSHeadRun.looksF Row0.prog (PySem.W.boot_heap (w.withFollow "special-get-raises" true).params) s.abs) = some true := by
  kernel_rfl
theorem yes_B (w : World) (os : OsState) : (HandSHeadRun.endF (HandSHeadRun.stepQ (HandSHeadRun.denQ HandSHeadRun.tabQ) Row0.prog (w.withFollow "special-get-raises" true)) 12000 Row0.prog (w.withFollow "special-get-raises" true) os).map (fun s => HandSHeadRun.seenQ (PySem.W.view Row0.prog [78]) loose (PySem.importedModules Row0.prog.main.body) (fun s => PySem.W.xlAt (PySem.W.view Row0.prog [78]) [] s && PySem.W.recOk Row0.toRowW.records s) s.abs) = some (PySem.W.openGood (PySem.W.view Row0.prog [78]) loose) := by
  kernel_rfl
theorem yes_C (w : World) (os : OsState) : (HandSHeadRun.endF (HandSHeadRun.stepQ (HandSHeadRun.denQ HandSHeadRun.tabQ) Row0.prog (w.withFollow "special-get-raises" true)) 12000 Row0.prog (w.withFollow "special-get-raises" true) os).map (fun s => ob s) = some (hk.val (w.withFollow "special-get-raises" true)) := by
  kernel_rfl
theorem run_yes (w : World) : HandSHeadRun.RunEq Row0 (PySem.W.view Row0.prog [78]) hk ob 12000 loose (w.withFollow "special-get-raises" true) := fun os => run_of (yes_A w os) (yes_B w os) (yes_C w os)
theorem run (w : World) : HandSHeadRun.RunEq Row0 (PySem.W.view Row0.prog [78]) hk ob 12000 loose w := PySem.W.byRow2 "special-get-raises" (P := fun w => HandSHeadRun.RunEq Row0 (PySem.W.view Row0.prog [78]) hk ob 12000 loose w) run_no run_yes w
end OR

set_option Elab.async false
set_option linter.all false
set_option maxRecDepth 100000
set_option maxHeartbeats 0
namespace OR
open PySem PySem.Spec PyProof.Rows L2 TS2
section
variable {P : Program} {w : World} {K : PySem.W.Frag} {h base : Heap} {mg : Str → Option Value}
theorem names (X : K.In h) (G : h.Ns mainGlobals mg) (e : ExF K) (c0 : He.SaysT fa fn ts w K) : Tx w K mg :=
  have c := c0.d
  { b_isinstance := He.free_ok X G (c.fact 47 (f := .free "isinstance") rfl)
    b_str := He.free_ok X G (c.fact 48 (f := .free "str") rfl)
    b_int := He.free_ok X G (c.fact 49 (f := .free "int") rfl)
    b_bool := He.free_ok X G (c.fact 50 (f := .free "bool") rfl)
    b_tuple := He.free_ok X G (c.fact 51 (f := .free "tuple") rfl)
    b_list := He.free_ok X G (c.fact 52 (f := .free "list") rfl)
    b_dict := He.free_ok X G (c.fact 53 (f := .free "dict") rfl)
    b_len := He.free_ok X G (c.fact 54 (f := .free "len") rfl)
    b_all := He.free_ok X G (c.fact 55 (f := .free "all") rfl)
    b_zip := He.free_ok X G (c.fact 56 (f := .free "zip") rfl)
    b_enumerate := He.free_ok X G (c.fact 57 (f := .free "enumerate") rfl)
    b_range := He.free_ok X G (c.fact 58 (f := .free "range") rfl)
    b_sorted := He.free_ok X G (c.fact 59 (f := .free "sorted") rfl)
    b_set := He.free_ok X G (c.fact 60 (f := .free "set") rfl)
    b_sum := He.free_ok X G (c.fact 61 (f := .free "sum") rfl)
    m_THROUGH := He.int_ok X G (c.fact 64 (f := .int "THROUGH" (-1)) rfl)
    m_FINISH := He.int_ok X G (c.fact 65 (f := .int "FINISH" (-2)) rfl)
    m_MOST_ASKS := He.int_ok X G (c.fact 66 (f := .int "MOST_ASKS" (6)) rfl)
    m_MOST_ANSWERS := He.int_ok X G (c.fact 67 (f := .int "MOST_ANSWERS" (4)) rfl)
    m_MOST_SIGNALS := He.int_ok X G (c.fact 68 (f := .int "MOST_SIGNALS" (3)) rfl)
    m_MOST_ROOM := He.int_ok X G (c.fact 69 (f := .int "MOST_ROOM" (3)) rfl)
    m_MOST_SIGNAL_WORDS := He.int_ok X G (c.fact 70 (f := .int "MOST_SIGNAL_WORDS" (3)) rfl)
    m_MOST_INPUTS := He.int_ok X G (c.fact 71 (f := .int "MOST_INPUTS" (3)) rfl)
    m_MOST_ROWS := He.int_ok X G (c.fact 72 (f := .int "MOST_ROWS" (60)) rfl)
    m_MOST_LABELS := He.int_ok X G (c.fact 73 (f := .int "MOST_LABELS" (6)) rfl)
    m_MOST_SLOTS := He.int_ok X G (c.fact 74 (f := .int "MOST_SLOTS" (4)) rfl)
    m_MOST_GATES := He.int_ok X G (c.fact 75 (f := .int "MOST_GATES" (8)) rfl)
    m_DEEPEST := He.int_ok X G (c.fact 76 (f := .int "DEEPEST" (5)) rfl)
    m_MOST_IN_ROW := He.int_ok X G (c.fact 77 (f := .int "MOST_IN_ROW" (3)) rfl)
    m_LONGEST_WORD := He.int_ok X G (c.fact 78 (f := .int "LONGEST_WORD" (8)) rfl)
    m_STEP := He.str_ok X G (c.fact 79 (f := .str "STEP" "  ") rfl)
    m_EDIT := He.str_ok X G (c.fact 80 (f := .str "EDIT" "edit") rfl)
    m_INPUT_SLOT := He.str_ok X G (c.fact 81 (f := .str "INPUT_SLOT" "in") rfl)
    m_FORMS := He.glo_ok X G (c.fact 5 (f := .glo "FORMS") rfl)
    D_FORMS := c0.tab 0 (t := (fun K => He.ga K "FORMS", ["ask", "timer", "await", "first", "drop", "take", "note", "put", "if", "loop", "leave", "part", "both", "gate", "past", "edit", "end", "anew"])) rfl
    forms := e.forms
    m_Program := He.glo_ok X G (c.fact 1 (f := .glo "Program") rfl)
    m_DIVIDERS := He.glo_ok X G (c.fact 6 (f := .glo "DIVIDERS") rfl)
    m_INNER := He.glo_ok X G (c.fact 7 (f := .glo "INNER") rfl)
    m_SEVERAL := He.glo_ok X G (c.fact 8 (f := .glo "SEVERAL") rfl)
    D_DIVIDERS := c0.tab 1 (t := (fun K => He.ga K "DIVIDERS", ["if", "gate"])) rfl
    dIf := e.dIf
    dGate := e.dGate
    t_INNER := by obtain ⟨p, h1, h2⟩ := e.inner; cases h1; exact h2
    t_SEVERAL := by obtain ⟨p, h1, h2⟩ := e.several; cases h1; exact h2
    c_RowCheck := He.cls_ok (c.fact 82 (f := .cls "RowCheck") rfl)
    n_RowCheck_ask_table := He.noat_ok (c.fact 84 (f := .noat "RowCheck" "ask_table") rfl)
    n_RowCheck_signal_table := He.noat_ok (c.fact 85 (f := .noat "RowCheck" "signal_table") rfl)
    n_RowCheck_with_edits := He.noat_ok (c.fact 86 (f := .noat "RowCheck" "with_edits") rfl)
    n_RowCheck_seen_edits := He.noat_ok (c.fact 87 (f := .noat "RowCheck" "seen_edits") rfl)
    n_RowCheck_seen_gates := He.noat_ok (c.fact 88 (f := .noat "RowCheck" "seen_gates") rfl)
    c_Plan := He.cls_ok (c.fact 89 (f := .cls "Plan") rfl)
    n_Plan_flat := He.noat_ok (c.fact 91 (f := .noat "Plan" "flat") rfl)
    n_Plan_places := He.noat_ok (c.fact 92 (f := .noat "Plan" "places") rfl)
    n_Plan_behind := He.noat_ok (c.fact 93 (f := .noat "Plan" "behind") rfl)
    n_Plan_entries := He.noat_ok (c.fact 94 (f := .noat "Plan" "entries") rfl)
    n_Plan_sides := He.noat_ok (c.fact 95 (f := .noat "Plan" "sides") rfl)
    n_Plan_starts := He.noat_ok (c.fact 96 (f := .noat "Plan" "starts") rfl)
    n_Plan_numbers := He.noat_ok (c.fact 97 (f := .noat "Plan" "numbers") rfl)
    c_Program := He.cls_ok (c.fact 98 (f := .cls "Program") rfl)
    n_Program_ask_table := He.noat_ok (c.fact 100 (f := .noat "Program" "ask_table") rfl)
    n_Program_signal_table := He.noat_ok (c.fact 101 (f := .noat "Program" "signal_table") rfl)
    n_Program_input_words := He.noat_ok (c.fact 102 (f := .noat "Program" "input_words") rfl)
    n_Program_row_list := He.noat_ok (c.fact 103 (f := .noat "Program" "row_list") rfl)
    n_Program_plan := He.noat_ok (c.fact 104 (f := .noat "Program" "plan") rfl)
    n_Program_name_table := He.noat_ok (c.fact 105 (f := .noat "Program" "name_table") rfl) }
theorem def_IP (X : K.In h) (G : h.Ns mainGlobals mg) (e : ExF K) (c : He.SaysD fa fn K) : ErrDef P w K mg base CX0 1 "InvalidProgram" (cIP K) ["self", "part", "path"] ["part", "path"] := by
  obtain ⟨fd, F⟩ := c.def_ 0 (d := dIP) rfl
  obtain ⟨i1, i2⟩ := He.ba e.iniIP
  refine ⟨⟨_, fd, He.glo_ok X G (c.fact 0 (f := .glo "InvalidProgram") rfl), e.errIP, He.eqO_ok i1, of_decide_eq_true i2, F.bindsN (ps := ["self", "part", "path"]) (fun _ _ _ _ _ _ us hl => match us, hl with | [_, _, _], _ => rfl), fun s u ws _ hl => ?_, ?_, by decide, rfl⟩⟩
  · obtain ⟨oc, od, dV, kV, doc, pm, an, cdv, ct, osl, rfl, _, _, hD, _⟩ := F.ex
    rcases hD with ⟨_, rfl⟩ | ⟨z, _⟩
    · match ws, hl with
      | [_, _], _ => exact .of_eq rfl
    · exact absurd rfl z
  · exact ok_ini2 F ⟨rfl, rfl, rfl, by decide +kernel, rfl, by decide +kernel, by decide +kernel⟩ rfl rfl rfl (by decide) (by decide) (by decide) (by decide) e.errIP (He.noat_ok (c.fact 62 (f := .noat "InvalidProgram" "part") rfl)) (He.noat_ok (c.fact 63 (f := .noat "InvalidProgram" "path") rfl))
theorem kw_one {v : Value} (k : kwV K v = true) : ∃ D gt, v = .ref D ∧ PySem.W.nsIn K D "asks" = some (some .none) ∧ PySem.W.nsIn K D "signals" = some (some .none) ∧ PySem.W.nsIn K D "inputs" = some (some (.ref gt)) ∧ ∀ H, SqT K H gt [.str "go"] := by
  cases v with
  | ref D =>
    obtain ⟨k1, k⟩ := He.ba (show (He.eqO (PySem.W.nsIn K D "asks") (some (some .none)) && (He.eqO (PySem.W.nsIn K D "signals") (some (some .none)) && hasT K D ("inputs", [.str "go"]))) = true from k)
    obtain ⟨k2, k3⟩ := He.ba k
    obtain ⟨gt, e, q⟩ := hasT_ok k3
    exact ⟨D, gt, rfl, He.eqO_ok k1, He.eqO_ok k2, e, q⟩
  | _ => cases k
theorem kw_Program {f : Addr} {fd : FuncData} (k : kwB K "Program" = true) (F : FunD K "__init__" "Program.__init__" (defArgs s_Program___init__) (defBody s_Program___init__) (defScope s_Program___init__) [] [] f fd) (hf : f = He.fAd K ("Program", some "__init__")) :
    ∃ gt, (∀ H, SqT K H gt [.str "go"]) ∧ FunD K "__init__" "Program.__init__" (defArgs s_Program___init__) (defBody s_Program___init__) (defScope s_Program___init__) [] [("asks", .non), ("signals", .non), ("inputs", .ref gt)] f fd ∧ KBn K fd p_Program___init__ 2 kw3 (fun vs zs => vs ++ zs) (fun vs zs => vs ++ zs) ∧ ∃ ds, Vals [V.non, V.non, V.ref gt] ds ∧ Binds K fd p_Program___init__ ds := by
  obtain ⟨gt, hg, F2⟩ : ∃ gt, (∀ H, SqT K H gt [.str "go"]) ∧ FunD K "__init__" "Program.__init__" (defArgs s_Program___init__) (defBody s_Program___init__) (defScope s_Program___init__) [] [("asks", .non), ("signals", .non), ("inputs", .ref gt)] f fd := by
    obtain ⟨oc, od, dV, kV, doc, pm, an, cdv, ct, osl, rfl, lk, hcd, hD, _⟩ := F.ex
    subst hf
    unfold kwB at k
    rw [lk] at k
    obtain ⟨D, gt, rfl, k1, k2, k3, hg⟩ := kw_one k
    refine ⟨gt, hg, ⟨⟨oc, od, dV, .ref D, doc, pm, an, cdv, ct, osl, rfl, lk, hcd, hD, .inr ⟨D, rfl, fun q hq => ?_⟩⟩, F.kp⟩⟩
    simp only [List.mem_cons, List.not_mem_nil, or_false] at hq
    rcases hq with rfl | rfl | rfl
    · exact ⟨_, k1, rfl⟩
    · exact ⟨_, k2, rfl⟩
    · exact ⟨_, k3, rfl⟩
  obtain ⟨mv, b⟩ := F2.kbinds0 (ps := p_Program___init__) 2 kw3 [] (fun vs _ zs => vs ++ zs) (by simp) (by simp) (fun r1 _ r3 => r1.append r3) (fun D doc pm an cdv ct us mv ws h1 h2 h3 => match us, h1, mv, h2, ws, h3 with
    | [_, _], _, [], _, [_, _, _], _ => rfl)
  obtain ⟨ds, rd, bd⟩ := F2.binds0 (ps := p_Program___init__) 2 (by simp) (by rfl) (fun D doc pm an cdv ct us ks h1 h2 => match us, h1, ks, h2 with
    | [_, _], _, [_, _, _], _ => ⟨_, _, _, _, _, _, rfl, rfl, _, _, _, _, _, _, rfl, rfl, _, _, _, _, _, _, rfl, rfl, rfl⟩)
  exact ⟨gt, hg, F2, b, ds, rd, bd⟩
theorem fnok_up {CX : CXT} {k k' : Nat} {f : Addr} {fd : FuncData} {ps : List Str} {sp : Sp} (h : k ≤ k') (F : FnOk P w K mg base CX k f fd ps sp) : FnOk P w K mg base CX k' f fd ps sp := ⟨F.len, fun A outer s H args us vs Q E hr => F.run A outer s H args us vs Q E (hr.mono h)⟩
theorem fnok_some {CX : CXT} {k n : Nat} {f : Addr} {fd : FuncData} {ps : List Str} {sp : Nat → Sp} (F : ∀ e, e < n → FnOk P w K mg base CX k f fd ps (sp e)) : FnOk P w K mg base CX k f fd ps (fun vs H Q E => ∃ e, e < n ∧ sp e vs H Q E) :=
  ⟨fun vs H Q E ⟨e, he, h⟩ => (F e he).len vs H Q E h, fun A outer s H args us vs Q E hr e0 b r ⟨e, he, h⟩ => (F e he).run A outer s H args us vs Q E hr e0 b r h⟩
theorem def_up {CX : CXT} {k k' : Nat} {x : Str} {ps : List Str} {sp : Sp} (h : k ≤ k') (G : Def P w K mg base CX k x ps sp) : Def P w K mg base CX k' x ps sp := by
  obtain ⟨f, fd, a, b, c, F⟩ := G.ex
  exact ⟨⟨f, fd, a, b, c, fnok_up h F⟩⟩
theorem mdef_up {CX : CXT} {k k' : Nat} {C : Addr} {x : Str} {ps : List Str} {sp : Sp} (h : k ≤ k') (G : MDef P w K mg base CX k C x ps sp) : MDef P w K mg base CX k' C x ps sp := by
  obtain ⟨cl, f, fd, a, b, F⟩ := G
  exact ⟨cl, f, fd, a, b, fnok_up h F⟩
theorem fnok_any {CX : CXT} {k : Nat} {f : Addr} {fd : FuncData} {ps : List Str} {sp : Nat → Sp} (F : ∀ e, FnOk P w K mg base CX k f fd ps (sp e)) : FnOk P w K mg base CX k f fd ps (fun vs H Q E => ∃ e, sp e vs H Q E) :=
  ⟨fun vs H Q E ⟨e, h⟩ => (F e).len vs H Q E h, fun A outer s H args us vs Q E hr e0 b r ⟨e, h⟩ => (F e).run A outer s H args us vs Q E hr e0 b r h⟩
theorem facts (X : K.In h) (G : h.Ns mainGlobals mg) {f : Addr} (hfa : mg ("law" : Str) = some (.ref f)) (ee : ex K = true) (c0 : He.SaysT fa fn ts w K) :
    ∃ fd : FuncData, (∀ (s : Shared) (v : Value), BindsTo s fd ⟨[v], []⟩ [("_law_script", v)]) ∧ ∀ base : Heap, K.In base → base.Ns mainGlobals mg → FnOk P w K mg base CX0 25 f fd ["_law_script"] (spLaw K) := by
  have e := ex_ok ee
  have T := names X G e c0
  have c := c0.d
  obtain ⟨fd_lists_of, Fd_lists_of⟩ := c.def_ 1 (d := d_lists_of) rfl
  obtain ⟨fd_with_lists, Fd_with_lists⟩ := c.def_ 2 (d := d_with_lists) rfl
  obtain ⟨fd_words_named, Fd_words_named⟩ := c.def_ 3 (d := d_words_named) rfl
  obtain ⟨fd_copied, Fd_copied⟩ := c.def_ 4 (d := d_copied) rfl
  obtain ⟨fd_is_word, Fd_is_word⟩ := c.def_ 5 (d := d_is_word) rfl
  obtain ⟨fd_is_integer, Fd_is_integer⟩ := c.def_ 6 (d := d_is_integer) rfl
  obtain ⟨fd_are_words, Fd_are_words⟩ := c.def_ 7 (d := d_are_words) rfl
  obtain ⟨fd_RowCheck___init__, Fd_RowCheck___init__⟩ := c.def_ 8 (d := d_RowCheck___init__) rfl
  obtain ⟨fd_RowCheck_check_rows, Fd_RowCheck_check_rows⟩ := c.def_ 9 (d := d_RowCheck_check_rows) rfl
  obtain ⟨fd_RowCheck_check_list, Fd_RowCheck_check_list⟩ := c.def_ 10 (d := d_RowCheck_check_list) rfl
  obtain ⟨fd_RowCheck_has_form, Fd_RowCheck_has_form⟩ := c.def_ 11 (d := d_RowCheck_has_form) rfl
  obtain ⟨fd_RowCheck_fits, Fd_RowCheck_fits⟩ := c.def_ 12 (d := d_RowCheck_fits) rfl
  obtain ⟨fd_RowCheck_is_new, Fd_RowCheck_is_new⟩ := c.def_ 13 (d := d_RowCheck_is_new) rfl
  obtain ⟨fd_are_sides, Fd_are_sides⟩ := c.def_ 14 (d := d_are_sides) rfl
  obtain ⟨fd_may_stand, Fd_may_stand⟩ := c.def_ 15 (d := d_may_stand) rfl
  obtain ⟨fd_Plan___init__, Fd_Plan___init__⟩ := c.def_ 16 (d := d_Plan___init__) rfl
  obtain ⟨fd_Plan_lay_list, Fd_Plan_lay_list⟩ := c.def_ 17 (d := d_Plan_lay_list) rfl
  obtain ⟨fd_Plan_lay_row, Fd_Plan_lay_row⟩ := c.def_ 18 (d := d_Plan_lay_row) rfl
  obtain ⟨fd_size_of, Fd_size_of⟩ := c.def_ 19 (d := d_size_of) rfl
  obtain ⟨fd_end_within, Fd_end_within⟩ := c.def_ 20 (d := d_end_within) rfl
  obtain ⟨fd_Draft___init__, Fd_Draft___init__⟩ := c.def_ 21 (d := d_Draft___init__) rfl
  obtain ⟨fd_checked_table, Fd_checked_table⟩ := c.def_ 22 (d := d_checked_table) rfl
  obtain ⟨fd_is_entry, Fd_is_entry⟩ := c.def_ 23 (d := d_is_entry) rfl
  obtain ⟨fd_named_in, Fd_named_in⟩ := c.def_ 24 (d := d_named_in) rfl
  obtain ⟨fd_check_sizes, Fd_check_sizes⟩ := c.def_ 25 (d := d_check_sizes) rfl
  obtain ⟨fd_Program___init__, Fd_Program___init__⟩ := c.def_ 26 (d := d_Program___init__) rfl
  obtain ⟨fd_Program_rows, Fd_Program_rows⟩ := c.def_ 27 (d := d_Program_rows) rfl
  obtain ⟨fd_Program_asks, Fd_Program_asks⟩ := c.def_ 28 (d := d_Program_asks) rfl
  obtain ⟨fd_Program_signals, Fd_Program_signals⟩ := c.def_ 29 (d := d_Program_signals) rfl
  obtain ⟨fd_Program_inputs, Fd_Program_inputs⟩ := c.def_ 30 (d := d_Program_inputs) rfl
  obtain ⟨fd_program_text, Fd_program_text⟩ := c.def_ 31 (d := d_program_text) rfl
  obtain ⟨fd_lines_of, Fd_lines_of⟩ := c.def_ 32 (d := d_lines_of) rfl
  obtain ⟨fd_words_in, Fd_words_in⟩ := c.def_ 33 (d := d_words_in) rfl
  obtain ⟨fd_inner_lines, Fd_inner_lines⟩ := c.def_ 34 (d := d_inner_lines) rfl
  obtain ⟨fd__law_pool, Fd__law_pool⟩ := c.def_ 35 (d := d__law_pool) rfl
  obtain ⟨fd__law_draw, Fd__law_draw⟩ := c.def_ 36 (d := d__law_draw) rfl
  obtain ⟨fd__law_item, Fd__law_item⟩ := c.def_ 37 (d := d__law_item) rfl
  obtain ⟨fd__law_names, Fd__law_names⟩ := c.def_ 38 (d := d__law_names) rfl
  obtain ⟨fd__law_parts, Fd__law_parts⟩ := c.def_ 39 (d := d__law_parts) rfl
  obtain ⟨fd__law_pair, Fd__law_pair⟩ := c.def_ 40 (d := d__law_pair) rfl
  obtain ⟨fd__law_race, Fd__law_race⟩ := c.def_ 41 (d := d__law_race) rfl
  obtain ⟨fd__law_plain, Fd__law_plain⟩ := c.def_ 42 (d := d__law_plain) rfl
  obtain ⟨fd__law_some, Fd__law_some⟩ := c.def_ 43 (d := d__law_some) rfl
  obtain ⟨fd__law_block, Fd__law_block⟩ := c.def_ 44 (d := d__law_block) rfl
  obtain ⟨fd__law_spec, Fd__law_spec⟩ := c.def_ 45 (d := d__law_spec) rfl
  obtain ⟨fd__law_made, Fd__law_made⟩ := c.def_ 46 (d := d__law_made) rfl
  obtain ⟨fd__law_lists, Fd__law_lists⟩ := c.def_ 47 (d := d__law_lists) rfl
  obtain ⟨fd__law_lines, Fd__law_lines⟩ := c.def_ 48 (d := d__law_lines) rfl
  obtain ⟨fd__law_head, Fd__law_head⟩ := c.def_ 49 (d := d__law_head) rfl
  obtain ⟨fd__law_text, Fd__law_text⟩ := c.def_ 50 (d := d__law_text) rfl
  obtain ⟨fd__law_wide, Fd__law_wide⟩ := c.def_ 51 (d := d__law_wide) rfl
  obtain ⟨fd__law_turned, Fd__law_turned⟩ := c.def_ 52 (d := d__law_turned) rfl
  obtain ⟨fd_law, Fd_law⟩ := c.def_ 53 (d := d_law) rfl
  have z := hfa.symm.trans (He.glo_ok X G (c.fact 46 (f := .glo "law") rfl))
  cases z
  have b := FunD.bindsA (ps := ["_law_script"]) Fd_law fun _ _ _ _ _ _ us hl => match us, hl with | [_], _ => rfl
  refine ⟨fd_law, fun s v => b s [v] rfl, fun base _ _ => ?_⟩
  have IP := def_IP (P := P) (w := w) (base := base) X G e c
  have G_is_word : Def P w K mg base CX0 1 "is_word" p_is_word (spIsWord K) := ⟨⟨_, fd_is_word, He.glo_ok X G (c.fact 13 (f := .glo "is_word") rfl), Fd_is_word.kp, Fd_is_word.bindsN (ps := p_is_word) (fun _ _ _ _ _ _ us hl => match us, hl with | [_], _ => rfl), ok_is_word Fd_is_word T⟩⟩
  have G_is_integer : Def P w K mg base CX0 1 "is_integer" p_is_integer spIsInt := ⟨⟨_, fd_is_integer, He.glo_ok X G (c.fact 14 (f := .glo "is_integer") rfl), Fd_is_integer.kp, Fd_is_integer.bindsN (ps := p_is_integer) (fun _ _ _ _ _ _ us hl => match us, hl with | [_], _ => rfl), ok_is_integer Fd_is_integer T⟩⟩
  have G_are_words : Def P w K mg base CX0 2 "are_words" p_are_words (spAreWords K) := ⟨⟨_, fd_are_words, He.glo_ok X G (c.fact 15 (f := .glo "are_words") rfl), Fd_are_words.kp, Fd_are_words.bindsN (ps := p_are_words) (fun _ _ _ _ _ _ us hl => match us, hl with | [_, _], _ => rfl), ok_are_words Fd_are_words T G_is_word⟩⟩
  have G_lists_of : Def P w K mg base CX0 1 "lists_of" p_lists_of (spListsOf K) := ⟨⟨_, fd_lists_of, He.glo_ok X G (c.fact 9 (f := .glo "lists_of") rfl), Fd_lists_of.kp, Fd_lists_of.bindsN (ps := p_lists_of) (fun _ _ _ _ _ _ us hl => match us, hl with | [_], _ => rfl), ok_lists_of Fd_lists_of T⟩⟩
  have G_words_named : Def P w K mg base CX0 1 "words_named" p_words_named (spNamed K) := ⟨⟨_, fd_words_named, He.glo_ok X G (c.fact 11 (f := .glo "words_named") rfl), Fd_words_named.kp, Fd_words_named.bindsN (ps := p_words_named) (fun _ _ _ _ _ _ us hl => match us, hl with | [_, _], _ => rfl), ok_words_named Fd_words_named T⟩⟩
  have G_with_lists : Def P w K mg base CX0 1 "with_lists" p_with_lists (spWith K) := ⟨⟨_, fd_with_lists, He.glo_ok X G (c.fact 10 (f := .glo "with_lists") rfl), Fd_with_lists.kp, Fd_with_lists.bindsN (ps := p_with_lists) (fun _ _ _ _ _ _ us hl => match us, hl with | [_, _], _ => rfl), ok_with_lists Fd_with_lists T⟩⟩
  have C0 : Def P w K mg base CX0 1 "copied" p_copied (spCopied K 0) := ⟨⟨_, fd_copied, He.glo_ok X G (c.fact 12 (f := .glo "copied") rfl), Fd_copied.kp, Fd_copied.bindsN (ps := p_copied) (fun _ _ _ _ _ _ us hl => match us, hl with | [_], _ => rfl), ⟨fun _ _ _ _ h => h.elim, fun _ _ _ _ _ _ _ _ _ _ _ _ _ h => h.elim⟩⟩⟩
  have C1 : Def P w K mg base CX0 2 "copied" p_copied (spCopied K 1) := ⟨⟨_, fd_copied, He.glo_ok X G (c.fact 12 (f := .glo "copied") rfl), Fd_copied.kp, Fd_copied.bindsN (ps := p_copied) (fun _ _ _ _ _ _ us hl => match us, hl with | [_], _ => rfl), ok_copied Fd_copied T (by decide) G_lists_of G_with_lists C0⟩⟩
  have C2 : Def P w K mg base CX0 3 "copied" p_copied (spCopied K 2) := ⟨⟨_, fd_copied, He.glo_ok X G (c.fact 12 (f := .glo "copied") rfl), Fd_copied.kp, Fd_copied.bindsN (ps := p_copied) (fun _ _ _ _ _ _ us hl => match us, hl with | [_], _ => rfl), ok_copied Fd_copied T (by decide) G_lists_of G_with_lists C1⟩⟩
  have C3 : Def P w K mg base CX0 4 "copied" p_copied (spCopied K 3) := ⟨⟨_, fd_copied, He.glo_ok X G (c.fact 12 (f := .glo "copied") rfl), Fd_copied.kp, Fd_copied.bindsN (ps := p_copied) (fun _ _ _ _ _ _ us hl => match us, hl with | [_], _ => rfl), ok_copied Fd_copied T (by decide) G_lists_of G_with_lists C2⟩⟩
  have C4 : Def P w K mg base CX0 5 "copied" p_copied (spCopied K 4) := ⟨⟨_, fd_copied, He.glo_ok X G (c.fact 12 (f := .glo "copied") rfl), Fd_copied.kp, Fd_copied.bindsN (ps := p_copied) (fun _ _ _ _ _ _ us hl => match us, hl with | [_], _ => rfl), ok_copied Fd_copied T (by decide) G_lists_of G_with_lists C3⟩⟩
  have C5 : Def P w K mg base CX0 6 "copied" p_copied (spCopied K 5) := ⟨⟨_, fd_copied, He.glo_ok X G (c.fact 12 (f := .glo "copied") rfl), Fd_copied.kp, Fd_copied.bindsN (ps := p_copied) (fun _ _ _ _ _ _ us hl => match us, hl with | [_], _ => rfl), ok_copied Fd_copied T (by decide) G_lists_of G_with_lists C4⟩⟩
  have C6 : Def P w K mg base CX0 7 "copied" p_copied (spCopied K 6) := ⟨⟨_, fd_copied, He.glo_ok X G (c.fact 12 (f := .glo "copied") rfl), Fd_copied.kp, Fd_copied.bindsN (ps := p_copied) (fun _ _ _ _ _ _ us hl => match us, hl with | [_], _ => rfl), ok_copied Fd_copied T (by decide) G_lists_of G_with_lists C5⟩⟩
  have Z0 : Def P w K mg base CX0 1 "size_of" p_size_of (spSize K 0) := ⟨⟨_, fd_size_of, He.glo_ok X G (c.fact 18 (f := .glo "size_of") rfl), Fd_size_of.kp, Fd_size_of.bindsN (ps := p_size_of) (fun _ _ _ _ _ _ us hl => match us, hl with | [_], _ => rfl), ⟨fun _ _ _ _ h => h.elim, fun _ _ _ _ _ _ _ _ _ _ _ _ _ h => h.elim⟩⟩⟩
  have Z1 : Def P w K mg base CX0 2 "size_of" p_size_of (spSize K 1) := ⟨⟨_, fd_size_of, He.glo_ok X G (c.fact 18 (f := .glo "size_of") rfl), Fd_size_of.kp, Fd_size_of.bindsN (ps := p_size_of) (fun _ _ _ _ _ _ us hl => match us, hl with | [_], _ => rfl), ok_size_of Fd_size_of T (by decide) G_lists_of Z0⟩⟩
  have Z2 : Def P w K mg base CX0 3 "size_of" p_size_of (spSize K 2) := ⟨⟨_, fd_size_of, He.glo_ok X G (c.fact 18 (f := .glo "size_of") rfl), Fd_size_of.kp, Fd_size_of.bindsN (ps := p_size_of) (fun _ _ _ _ _ _ us hl => match us, hl with | [_], _ => rfl), ok_size_of Fd_size_of T (by decide) G_lists_of Z1⟩⟩
  have Z3 : Def P w K mg base CX0 4 "size_of" p_size_of (spSize K 3) := ⟨⟨_, fd_size_of, He.glo_ok X G (c.fact 18 (f := .glo "size_of") rfl), Fd_size_of.kp, Fd_size_of.bindsN (ps := p_size_of) (fun _ _ _ _ _ _ us hl => match us, hl with | [_], _ => rfl), ok_size_of Fd_size_of T (by decide) G_lists_of Z2⟩⟩
  have Z4 : Def P w K mg base CX0 5 "size_of" p_size_of (spSize K 4) := ⟨⟨_, fd_size_of, He.glo_ok X G (c.fact 18 (f := .glo "size_of") rfl), Fd_size_of.kp, Fd_size_of.bindsN (ps := p_size_of) (fun _ _ _ _ _ _ us hl => match us, hl with | [_], _ => rfl), ok_size_of Fd_size_of T (by decide) G_lists_of Z3⟩⟩
  have Z5 : Def P w K mg base CX0 6 "size_of" p_size_of (spSize K 5) := ⟨⟨_, fd_size_of, He.glo_ok X G (c.fact 18 (f := .glo "size_of") rfl), Fd_size_of.kp, Fd_size_of.bindsN (ps := p_size_of) (fun _ _ _ _ _ _ us hl => match us, hl with | [_], _ => rfl), ok_size_of Fd_size_of T (by decide) G_lists_of Z4⟩⟩
  have Z6 : Def P w K mg base CX0 7 "size_of" p_size_of (spSize K 6) := ⟨⟨_, fd_size_of, He.glo_ok X G (c.fact 18 (f := .glo "size_of") rfl), Fd_size_of.kp, Fd_size_of.bindsN (ps := p_size_of) (fun _ _ _ _ _ _ us hl => match us, hl with | [_], _ => rfl), ok_size_of Fd_size_of T (by decide) G_lists_of Z5⟩⟩
  have G_are_sides : Def P w K mg base CX0 1 "are_sides" p_are_sides (spSides K) := ⟨⟨_, fd_are_sides, He.glo_ok X G (c.fact 16 (f := .glo "are_sides") rfl), Fd_are_sides.kp, Fd_are_sides.bindsN (ps := p_are_sides) (fun _ _ _ _ _ _ us hl => match us, hl with | [_], _ => rfl), ok_are_sides Fd_are_sides T⟩⟩
  have G_may_stand : Def P w K mg base CX0 2 "may_stand" p_may_stand (spMay K) := ⟨⟨_, fd_may_stand, He.glo_ok X G (c.fact 17 (f := .glo "may_stand") rfl), Fd_may_stand.kp, Fd_may_stand.bindsN (ps := p_may_stand) (fun _ _ _ _ _ _ us hl => match us, hl with | [_, _, _], _ => rfl), ok_may_stand Fd_may_stand T G_lists_of⟩⟩
  have M_fits : MDef P w K mg base CX0 3 (He.ga K "RowCheck") "fits" p_RowCheck_fits (spFits K) := ⟨T.c_RowCheck, ⟨_, fd_RowCheck_fits, He.meth_ok (c.fact 109 (f := .meth "RowCheck" "fits") rfl), Fd_RowCheck_fits.bindsN (ps := p_RowCheck_fits) (fun _ _ _ _ _ _ us hl => match us, hl with | [_, _, _], _ => rfl), ok_fits Fd_RowCheck_fits T G_is_word G_are_words G_are_sides⟩⟩
  have M_has_form : MDef P w K mg base CX0 4 (He.ga K "RowCheck") "has_form" p_RowCheck_has_form (spHasForm K) := ⟨T.c_RowCheck, ⟨_, fd_RowCheck_has_form, He.meth_ok (c.fact 108 (f := .meth "RowCheck" "has_form") rfl), Fd_RowCheck_has_form.bindsN (ps := p_RowCheck_has_form) (fun _ _ _ _ _ _ us hl => match us, hl with | [_, _], _ => rfl), ok_has_form Fd_RowCheck_has_form T M_fits⟩⟩
  have M_is_new : MDef P w K mg base CX0 1 (He.ga K "RowCheck") "is_new" p_RowCheck_is_new (spIsNew K) := ⟨T.c_RowCheck, ⟨_, fd_RowCheck_is_new, He.meth_ok (c.fact 110 (f := .meth "RowCheck" "is_new") rfl), Fd_RowCheck_is_new.bindsN (ps := p_RowCheck_is_new) (fun _ _ _ _ _ _ us hl => match us, hl with | [_, _], _ => rfl), ok_is_new Fd_RowCheck_is_new T⟩⟩
  have V0 : MDef P w K mg base (L2.CX P w) 5 (He.ga K "RowCheck") "check_list" p_RowCheck_check_list (spCheck K 0) := ⟨T.c_RowCheck, ⟨_, fd_RowCheck_check_list, He.meth_ok (c.fact 107 (f := .meth "RowCheck" "check_list") rfl), Fd_RowCheck_check_list.bindsN (ps := p_RowCheck_check_list) (fun _ _ _ _ _ _ us hl => match us, hl with | [_, _, _, _], _ => rfl), ⟨fun _ _ _ _ h => h.elim, fun _ _ _ _ _ _ _ _ _ _ _ _ _ h => h.elim⟩⟩⟩
  have V1 : MDef P w K mg base (L2.CX P w) 6 (He.ga K "RowCheck") "check_list" p_RowCheck_check_list (spCheck K 1) := ⟨T.c_RowCheck, ⟨_, fd_RowCheck_check_list, He.meth_ok (c.fact 107 (f := .meth "RowCheck" "check_list") rfl), Fd_RowCheck_check_list.bindsN (ps := p_RowCheck_check_list) (fun _ _ _ _ _ _ us hl => match us, hl with | [_, _, _, _], _ => rfl), ok_check_list Fd_RowCheck_check_list T (by decide) IP G_lists_of G_may_stand M_has_form M_is_new V0⟩⟩
  have V2 : MDef P w K mg base (L2.CX P w) 7 (He.ga K "RowCheck") "check_list" p_RowCheck_check_list (spCheck K 2) := ⟨T.c_RowCheck, ⟨_, fd_RowCheck_check_list, He.meth_ok (c.fact 107 (f := .meth "RowCheck" "check_list") rfl), Fd_RowCheck_check_list.bindsN (ps := p_RowCheck_check_list) (fun _ _ _ _ _ _ us hl => match us, hl with | [_, _, _, _], _ => rfl), ok_check_list Fd_RowCheck_check_list T (by decide) IP G_lists_of G_may_stand M_has_form M_is_new V1⟩⟩
  have V3 : MDef P w K mg base (L2.CX P w) 8 (He.ga K "RowCheck") "check_list" p_RowCheck_check_list (spCheck K 3) := ⟨T.c_RowCheck, ⟨_, fd_RowCheck_check_list, He.meth_ok (c.fact 107 (f := .meth "RowCheck" "check_list") rfl), Fd_RowCheck_check_list.bindsN (ps := p_RowCheck_check_list) (fun _ _ _ _ _ _ us hl => match us, hl with | [_, _, _, _], _ => rfl), ok_check_list Fd_RowCheck_check_list T (by decide) IP G_lists_of G_may_stand M_has_form M_is_new V2⟩⟩
  have V4 : MDef P w K mg base (L2.CX P w) 9 (He.ga K "RowCheck") "check_list" p_RowCheck_check_list (spCheck K 4) := ⟨T.c_RowCheck, ⟨_, fd_RowCheck_check_list, He.meth_ok (c.fact 107 (f := .meth "RowCheck" "check_list") rfl), Fd_RowCheck_check_list.bindsN (ps := p_RowCheck_check_list) (fun _ _ _ _ _ _ us hl => match us, hl with | [_, _, _, _], _ => rfl), ok_check_list Fd_RowCheck_check_list T (by decide) IP G_lists_of G_may_stand M_has_form M_is_new V3⟩⟩
  have V5 : MDef P w K mg base (L2.CX P w) 10 (He.ga K "RowCheck") "check_list" p_RowCheck_check_list (spCheck K 5) := ⟨T.c_RowCheck, ⟨_, fd_RowCheck_check_list, He.meth_ok (c.fact 107 (f := .meth "RowCheck" "check_list") rfl), Fd_RowCheck_check_list.bindsN (ps := p_RowCheck_check_list) (fun _ _ _ _ _ _ us hl => match us, hl with | [_, _, _, _], _ => rfl), ok_check_list Fd_RowCheck_check_list T (by decide) IP G_lists_of G_may_stand M_has_form M_is_new V4⟩⟩
  have V6 : MDef P w K mg base (L2.CX P w) 11 (He.ga K "RowCheck") "check_list" p_RowCheck_check_list (spCheck K 6) := ⟨T.c_RowCheck, ⟨_, fd_RowCheck_check_list, He.meth_ok (c.fact 107 (f := .meth "RowCheck" "check_list") rfl), Fd_RowCheck_check_list.bindsN (ps := p_RowCheck_check_list) (fun _ _ _ _ _ _ us hl => match us, hl with | [_, _, _, _], _ => rfl), ok_check_list Fd_RowCheck_check_list T (by decide) IP G_lists_of G_may_stand M_has_form M_is_new V5⟩⟩
  have M_check_rows : MDef P w K mg base (L2.CX P w) 12 (He.ga K "RowCheck") "check_rows" p_RowCheck_check_rows (spCheckRows K 5) := ⟨T.c_RowCheck, ⟨_, fd_RowCheck_check_rows, He.meth_ok (c.fact 106 (f := .meth "RowCheck" "check_rows") rfl), Fd_RowCheck_check_rows.bindsN (ps := p_RowCheck_check_rows) (fun _ _ _ _ _ _ us hl => match us, hl with | [_, _], _ => rfl), ok_check_rows Fd_RowCheck_check_rows T (by decide) IP V6⟩⟩
  have K_RowCheck : MkA P w K mg base CX0 1 "RowCheck" (He.ga K "RowCheck") [] p_RowCheck___init__ (spRCinit K) := ⟨⟨_, fd_RowCheck___init__, [], He.glo_ok X G (c.fact 3 (f := .glo "RowCheck") rfl), He.mkr_ok (c.fact 83 (f := .mkr "RowCheck") rfl), Fd_RowCheck___init__.bindsN (ps := p_RowCheck___init__) (fun _ _ _ _ _ _ us hl => match us, hl with | [_, _, _, _], _ => rfl), .nil, ok_RCinit Fd_RowCheck___init__ T⟩⟩
  have G_end_within : Def P w K mg base CX0 1 "end_within" p_end_within (spEnd K) := ⟨⟨_, fd_end_within, He.glo_ok X G (c.fact 19 (f := .glo "end_within") rfl), Fd_end_within.kp, Fd_end_within.bindsN (ps := p_end_within) (fun _ _ _ _ _ _ us hl => match us, hl with | [_, _, _], _ => rfl), ok_end_within Fd_end_within T⟩⟩
  have R0 : MDef P w K mg base CX0 7 (He.ga K "Plan") "lay_row" p_Plan_lay_row (spLayRow K 0) := ⟨T.c_Plan, ⟨_, fd_Plan_lay_row, He.meth_ok (c.fact 112 (f := .meth "Plan" "lay_row") rfl), Fd_Plan_lay_row.bindsN (ps := p_Plan_lay_row) (fun _ _ _ _ _ _ us hl => match us, hl with | [_, _, _, _, _], _ => rfl), ⟨fun _ _ _ _ h => h.elim, fun _ _ _ _ _ _ _ _ _ _ _ _ _ h => h.elim⟩⟩⟩
  have Y1 : MDef P w K mg base CX0 8 (He.ga K "Plan") "lay_list" p_Plan_lay_list (spLayList K 1) := ⟨T.c_Plan, ⟨_, fd_Plan_lay_list, He.meth_ok (c.fact 111 (f := .meth "Plan" "lay_list") rfl), Fd_Plan_lay_list.bindsN (ps := p_Plan_lay_list) (fun _ _ _ _ _ _ us hl => match us, hl with | [_, _, _, _, _], _ => rfl), ok_lay_list Fd_Plan_lay_list T (by decide) Z1 R0⟩⟩
  have R1 : MDef P w K mg base CX0 9 (He.ga K "Plan") "lay_row" p_Plan_lay_row (spLayRow K 1) := ⟨T.c_Plan, ⟨_, fd_Plan_lay_row, He.meth_ok (c.fact 112 (f := .meth "Plan" "lay_row") rfl), Fd_Plan_lay_row.bindsN (ps := p_Plan_lay_row) (fun _ _ _ _ _ _ us hl => match us, hl with | [_, _, _, _, _], _ => rfl), ok_lay_row Fd_Plan_lay_row T (by decide) G_lists_of G_end_within Y1⟩⟩
  have Y2 : MDef P w K mg base CX0 10 (He.ga K "Plan") "lay_list" p_Plan_lay_list (spLayList K 2) := ⟨T.c_Plan, ⟨_, fd_Plan_lay_list, He.meth_ok (c.fact 111 (f := .meth "Plan" "lay_list") rfl), Fd_Plan_lay_list.bindsN (ps := p_Plan_lay_list) (fun _ _ _ _ _ _ us hl => match us, hl with | [_, _, _, _, _], _ => rfl), ok_lay_list Fd_Plan_lay_list T (by decide) Z2 R1⟩⟩
  have R2 : MDef P w K mg base CX0 11 (He.ga K "Plan") "lay_row" p_Plan_lay_row (spLayRow K 2) := ⟨T.c_Plan, ⟨_, fd_Plan_lay_row, He.meth_ok (c.fact 112 (f := .meth "Plan" "lay_row") rfl), Fd_Plan_lay_row.bindsN (ps := p_Plan_lay_row) (fun _ _ _ _ _ _ us hl => match us, hl with | [_, _, _, _, _], _ => rfl), ok_lay_row Fd_Plan_lay_row T (by decide) G_lists_of G_end_within Y2⟩⟩
  have Y3 : MDef P w K mg base CX0 12 (He.ga K "Plan") "lay_list" p_Plan_lay_list (spLayList K 3) := ⟨T.c_Plan, ⟨_, fd_Plan_lay_list, He.meth_ok (c.fact 111 (f := .meth "Plan" "lay_list") rfl), Fd_Plan_lay_list.bindsN (ps := p_Plan_lay_list) (fun _ _ _ _ _ _ us hl => match us, hl with | [_, _, _, _, _], _ => rfl), ok_lay_list Fd_Plan_lay_list T (by decide) Z3 R2⟩⟩
  have R3 : MDef P w K mg base CX0 13 (He.ga K "Plan") "lay_row" p_Plan_lay_row (spLayRow K 3) := ⟨T.c_Plan, ⟨_, fd_Plan_lay_row, He.meth_ok (c.fact 112 (f := .meth "Plan" "lay_row") rfl), Fd_Plan_lay_row.bindsN (ps := p_Plan_lay_row) (fun _ _ _ _ _ _ us hl => match us, hl with | [_, _, _, _, _], _ => rfl), ok_lay_row Fd_Plan_lay_row T (by decide) G_lists_of G_end_within Y3⟩⟩
  have Y4 : MDef P w K mg base CX0 14 (He.ga K "Plan") "lay_list" p_Plan_lay_list (spLayList K 4) := ⟨T.c_Plan, ⟨_, fd_Plan_lay_list, He.meth_ok (c.fact 111 (f := .meth "Plan" "lay_list") rfl), Fd_Plan_lay_list.bindsN (ps := p_Plan_lay_list) (fun _ _ _ _ _ _ us hl => match us, hl with | [_, _, _, _, _], _ => rfl), ok_lay_list Fd_Plan_lay_list T (by decide) Z4 R3⟩⟩
  have R4 : MDef P w K mg base CX0 15 (He.ga K "Plan") "lay_row" p_Plan_lay_row (spLayRow K 4) := ⟨T.c_Plan, ⟨_, fd_Plan_lay_row, He.meth_ok (c.fact 112 (f := .meth "Plan" "lay_row") rfl), Fd_Plan_lay_row.bindsN (ps := p_Plan_lay_row) (fun _ _ _ _ _ _ us hl => match us, hl with | [_, _, _, _, _], _ => rfl), ok_lay_row Fd_Plan_lay_row T (by decide) G_lists_of G_end_within Y4⟩⟩
  have Y5 : MDef P w K mg base CX0 16 (He.ga K "Plan") "lay_list" p_Plan_lay_list (spLayList K 5) := ⟨T.c_Plan, ⟨_, fd_Plan_lay_list, He.meth_ok (c.fact 111 (f := .meth "Plan" "lay_list") rfl), Fd_Plan_lay_list.bindsN (ps := p_Plan_lay_list) (fun _ _ _ _ _ _ us hl => match us, hl with | [_, _, _, _, _], _ => rfl), ok_lay_list Fd_Plan_lay_list T (by decide) Z5 R4⟩⟩
  have R5 : MDef P w K mg base CX0 17 (He.ga K "Plan") "lay_row" p_Plan_lay_row (spLayRow K 5) := ⟨T.c_Plan, ⟨_, fd_Plan_lay_row, He.meth_ok (c.fact 112 (f := .meth "Plan" "lay_row") rfl), Fd_Plan_lay_row.bindsN (ps := p_Plan_lay_row) (fun _ _ _ _ _ _ us hl => match us, hl with | [_, _, _, _, _], _ => rfl), ok_lay_row Fd_Plan_lay_row T (by decide) G_lists_of G_end_within Y5⟩⟩
  have Y6 : MDef P w K mg base CX0 18 (He.ga K "Plan") "lay_list" p_Plan_lay_list (spLayList K 6) := ⟨T.c_Plan, ⟨_, fd_Plan_lay_list, He.meth_ok (c.fact 111 (f := .meth "Plan" "lay_list") rfl), Fd_Plan_lay_list.bindsN (ps := p_Plan_lay_list) (fun _ _ _ _ _ _ us hl => match us, hl with | [_, _, _, _, _], _ => rfl), ok_lay_list Fd_Plan_lay_list T (by decide) Z6 R5⟩⟩
  have K_Plan : MkA P w K mg base CX0 19 "Plan" (He.ga K "Plan") [] p_Plan___init__ (spPlanInit K 5) := ⟨⟨_, fd_Plan___init__, [], He.glo_ok X G (c.fact 4 (f := .glo "Plan") rfl), He.mkr_ok (c.fact 90 (f := .mkr "Plan") rfl), Fd_Plan___init__.bindsN (ps := p_Plan___init__) (fun _ _ _ _ _ _ us hl => match us, hl with | [_, _], _ => rfl), .nil, ok_plan Fd_Plan___init__ T Y6⟩⟩
  have G_named_in : Def P w K mg base CX0 2 "named_in" p_named_in (spNamedIn K) := ⟨⟨_, fd_named_in, He.glo_ok X G (c.fact 22 (f := .glo "named_in") rfl), Fd_named_in.kp, Fd_named_in.bindsN (ps := p_named_in) (fun _ _ _ _ _ _ us hl => match us, hl with | [_], _ => rfl), ok_named_in Fd_named_in T G_words_named⟩⟩
  have G_check_sizes : Def P w K mg base (L2.CX P w) 3 "check_sizes" p_check_sizes (spSizes K) := ⟨⟨_, fd_check_sizes, He.glo_ok X G (c.fact 23 (f := .glo "check_sizes") rfl), Fd_check_sizes.kp, Fd_check_sizes.bindsN (ps := p_check_sizes) (fun _ _ _ _ _ _ us hl => match us, hl with | [_, _], _ => rfl), ok_check_sizes Fd_check_sizes T IP⟩⟩
  have G_is_entry : Def P w K mg base CX0 3 "is_entry" p_is_entry (spEntry K) := ⟨⟨_, fd_is_entry, He.glo_ok X G (c.fact 21 (f := .glo "is_entry") rfl), Fd_is_entry.kp, Fd_is_entry.bindsN (ps := p_is_entry) (fun _ _ _ _ _ _ us hl => match us, hl with | [_, _], _ => rfl), ok_is_entry Fd_is_entry T G_is_integer G_are_words⟩⟩
  have G_checked_table : Def P w K mg base (L2.CX P w) 4 "checked_table" p_checked_table (spTable K) := ⟨⟨_, fd_checked_table, He.glo_ok X G (c.fact 20 (f := .glo "checked_table") rfl), Fd_checked_table.kp, Fd_checked_table.bindsN (ps := p_checked_table) (fun _ _ _ _ _ _ us hl => match us, hl with | [_, _, _], _ => rfl), ok_checked_table Fd_checked_table T IP G_is_word G_is_entry⟩⟩
  have C_Draft : CFun P w K mg base (L2.CX P w) 21 "Draft" (He.ga K "Draft") "__init__" p_Draft___init__ (spDraft K 5) := ⟨⟨_, fd_Draft___init__, _, He.glo_ok X G (c.fact 2 (f := .glo "Draft") rfl), (drB_ok e.dr).1, (drB_ok e.dr).2, Fd_Draft___init__.kp, Fd_Draft___init__.bindsN (ps := p_Draft___init__) (fun _ _ _ _ _ _ us hl => match us, hl with | [_, _, _, _, _, _], _ => rfl), ok_draft (k0 := 20) Fd_Draft___init__ T (by decide) (by decide) (by decide) (by decide) IP G_checked_table G_are_words K_RowCheck M_check_rows C6 K_Plan G_named_in G_check_sizes⟩⟩
  have dcProgram : DCls K (He.ga K "Program") := ⟨T.c_Program, fun f hf => by
    simp only [List.mem_cons, List.not_mem_nil, or_false] at hf
    rcases hf with rfl | rfl | rfl | rfl | rfl | rfl
    · exact T.n_Program_ask_table
    · exact T.n_Program_signal_table
    · exact T.n_Program_input_words
    · exact T.n_Program_row_list
    · exact T.n_Program_plan
    · exact T.n_Program_name_table⟩
  obtain ⟨gtProgram, hgtProgram, F2Program, kbProgram, dsProgram, rdProgram, bdProgram⟩ := kw_Program e.kPr Fd_Program___init__ rfl
  have kcProgram : KwCls P w K mg base 22 "Program" (He.ga K "Program") p_Program___init__ (spProgInit K 5) := ⟨⟨_, fd_Program___init__, T.m_Program, He.mkr_ok (c.fact 99 (f := .mkr "Program") rfl), kbProgram, ok_program F2Program T dcProgram C_Draft⟩⟩
  have M_rows : MDef P w K mg base CX0 8 (He.ga K "Program") "rows" p_Program_rows (spRows K 5) := ⟨T.c_Program, ⟨_, fd_Program_rows, He.meth_ok (c.fact 113 (f := .meth "Program" "rows") rfl), Fd_Program_rows.bindsN (ps := p_Program_rows) (fun _ _ _ _ _ _ us hl => match us, hl with | [_], _ => rfl), ok_rows Fd_Program_rows T C6⟩⟩
  have M_asks : MDef P w K mg base CX0 1 (He.ga K "Program") "asks" p_Program_asks (spTab K true 5) := ⟨T.c_Program, ⟨_, fd_Program_asks, He.meth_ok (c.fact 114 (f := .meth "Program" "asks") rfl), Fd_Program_asks.bindsN (ps := p_Program_asks) (fun _ _ _ _ _ _ us hl => match us, hl with | [_], _ => rfl), ok_asks Fd_Program_asks T⟩⟩
  have M_signals : MDef P w K mg base CX0 1 (He.ga K "Program") "signals" p_Program_signals (spTab K false 5) := ⟨T.c_Program, ⟨_, fd_Program_signals, He.meth_ok (c.fact 115 (f := .meth "Program" "signals") rfl), Fd_Program_signals.bindsN (ps := p_Program_signals) (fun _ _ _ _ _ _ us hl => match us, hl with | [_], _ => rfl), ok_signals Fd_Program_signals T⟩⟩
  have M_inputs : MDef P w K mg base CX0 1 (He.ga K "Program") "inputs" p_Program_inputs (spInputs K 5) := ⟨T.c_Program, ⟨_, fd_Program_inputs, He.meth_ok (c.fact 116 (f := .meth "Program" "inputs") rfl), Fd_Program_inputs.bindsN (ps := p_Program_inputs) (fun _ _ _ _ _ _ us hl => match us, hl with | [_], _ => rfl), ok_inputs Fd_Program_inputs T⟩⟩
  have XP : IsP K := ⟨e.xcP.ha, e.xcP.hn, e.xcP.ht, e.xcP.hm, e.kPP⟩
  have G__law_pool : Def P w K mg base CX0 1 "_law_pool" p__law_pool (spPool K) := ⟨⟨_, fd__law_pool, He.glo_ok X G (c.fact 28 (f := .glo "_law_pool") rfl), Fd__law_pool.kp, Fd__law_pool.bindsN (ps := p__law_pool) (fun _ _ _ _ _ _ us hl => match us, hl with | [_, _], _ => rfl), ok_pool Fd__law_pool T.b_int T.b_len⟩⟩
  have G__law_draw : Def P w K mg base CX0 1 "_law_draw" p__law_draw spDraw := ⟨⟨_, fd__law_draw, He.glo_ok X G (c.fact 29 (f := .glo "_law_draw") rfl), Fd__law_draw.kp, Fd__law_draw.bindsN (ps := p__law_draw) (fun _ _ _ _ _ _ us hl => match us, hl with | [_, _], _ => rfl), ok_draw Fd__law_draw T.b_int⟩⟩
  have G__law_item : Def P w K mg base CX0 2 "_law_item" p__law_item (spItem K) := ⟨⟨_, fd__law_item, He.glo_ok X G (c.fact 30 (f := .glo "_law_item") rfl), Fd__law_item.kp, Fd__law_item.bindsN (ps := p__law_item) (fun _ _ _ _ _ _ us hl => match us, hl with | [_, _], _ => rfl), ok_item Fd__law_item T G__law_draw⟩⟩
  have G__law_names : Def P w K mg base CX0 2 "_law_names" p__law_names (spLNames K) := ⟨⟨_, fd__law_names, He.glo_ok X G (c.fact 31 (f := .glo "_law_names") rfl), Fd__law_names.kp, Fd__law_names.bindsN (ps := p__law_names) (fun _ _ _ _ _ _ us hl => match us, hl with | [_, _], _ => rfl), ok_lnames Fd__law_names T G__law_draw⟩⟩
  have G__law_parts : Def P w K mg base CX0 3 "_law_parts" p__law_parts (spParts K) := ⟨⟨_, fd__law_parts, He.glo_ok X G (c.fact 32 (f := .glo "_law_parts") rfl), Fd__law_parts.kp, Fd__law_parts.bindsN (ps := p__law_parts) (fun _ _ _ _ _ _ us hl => match us, hl with | [_], _ => rfl), ok_parts Fd__law_parts T G__law_draw G__law_names⟩⟩
  have PR0 : Def P w K mg base CX0 3 "_law_pair" p__law_pair (spRowsN K 0 2) := ⟨⟨_, fd__law_pair, He.glo_ok X G (c.fact 33 (f := .glo "_law_pair") rfl), Fd__law_pair.kp, Fd__law_pair.bindsN (ps := p__law_pair) (fun _ _ _ _ _ _ us hl => match us, hl with | [_, _], _ => rfl), ok_pair Fd__law_pair T G__law_draw G__law_item⟩⟩
  have RC0 : Def P w K mg base CX0 3 "_law_race" p__law_race (spRowsN K 0 5) := ⟨⟨_, fd__law_race, He.glo_ok X G (c.fact 34 (f := .glo "_law_race") rfl), Fd__law_race.kp, Fd__law_race.bindsN (ps := p__law_race) (fun _ _ _ _ _ _ us hl => match us, hl with | [_, _], _ => rfl), ok_race Fd__law_race T G__law_item⟩⟩
  have PL0 : Def P w K mg base CX0 3 "_law_plain" p__law_plain (spPlain K 0) := ⟨⟨_, fd__law_plain, He.glo_ok X G (c.fact 35 (f := .glo "_law_plain") rfl), Fd__law_plain.kp, Fd__law_plain.bindsN (ps := p__law_plain) (fun _ _ _ _ _ _ us hl => match us, hl with | [_, _], _ => rfl), ok_plain Fd__law_plain T G__law_draw G__law_item⟩⟩
  have PR1 : Def P w K mg base CX0 3 "_law_pair" p__law_pair (spRowsN K 1 2) := ⟨⟨_, fd__law_pair, He.glo_ok X G (c.fact 33 (f := .glo "_law_pair") rfl), Fd__law_pair.kp, Fd__law_pair.bindsN (ps := p__law_pair) (fun _ _ _ _ _ _ us hl => match us, hl with | [_, _], _ => rfl), ok_pair Fd__law_pair T G__law_draw G__law_item⟩⟩
  have RC1 : Def P w K mg base CX0 3 "_law_race" p__law_race (spRowsN K 1 5) := ⟨⟨_, fd__law_race, He.glo_ok X G (c.fact 34 (f := .glo "_law_race") rfl), Fd__law_race.kp, Fd__law_race.bindsN (ps := p__law_race) (fun _ _ _ _ _ _ us hl => match us, hl with | [_, _], _ => rfl), ok_race Fd__law_race T G__law_item⟩⟩
  have PL1 : Def P w K mg base CX0 3 "_law_plain" p__law_plain (spPlain K 1) := ⟨⟨_, fd__law_plain, He.glo_ok X G (c.fact 35 (f := .glo "_law_plain") rfl), Fd__law_plain.kp, Fd__law_plain.bindsN (ps := p__law_plain) (fun _ _ _ _ _ _ us hl => match us, hl with | [_, _], _ => rfl), ok_plain Fd__law_plain T G__law_draw G__law_item⟩⟩
  have PR2 : Def P w K mg base CX0 3 "_law_pair" p__law_pair (spRowsN K 2 2) := ⟨⟨_, fd__law_pair, He.glo_ok X G (c.fact 33 (f := .glo "_law_pair") rfl), Fd__law_pair.kp, Fd__law_pair.bindsN (ps := p__law_pair) (fun _ _ _ _ _ _ us hl => match us, hl with | [_, _], _ => rfl), ok_pair Fd__law_pair T G__law_draw G__law_item⟩⟩
  have RC2 : Def P w K mg base CX0 3 "_law_race" p__law_race (spRowsN K 2 5) := ⟨⟨_, fd__law_race, He.glo_ok X G (c.fact 34 (f := .glo "_law_race") rfl), Fd__law_race.kp, Fd__law_race.bindsN (ps := p__law_race) (fun _ _ _ _ _ _ us hl => match us, hl with | [_, _], _ => rfl), ok_race Fd__law_race T G__law_item⟩⟩
  have PL2 : Def P w K mg base CX0 3 "_law_plain" p__law_plain (spPlain K 2) := ⟨⟨_, fd__law_plain, He.glo_ok X G (c.fact 35 (f := .glo "_law_plain") rfl), Fd__law_plain.kp, Fd__law_plain.bindsN (ps := p__law_plain) (fun _ _ _ _ _ _ us hl => match us, hl with | [_, _], _ => rfl), ok_plain Fd__law_plain T G__law_draw G__law_item⟩⟩
  have PR3 : Def P w K mg base CX0 3 "_law_pair" p__law_pair (spRowsN K 3 2) := ⟨⟨_, fd__law_pair, He.glo_ok X G (c.fact 33 (f := .glo "_law_pair") rfl), Fd__law_pair.kp, Fd__law_pair.bindsN (ps := p__law_pair) (fun _ _ _ _ _ _ us hl => match us, hl with | [_, _], _ => rfl), ok_pair Fd__law_pair T G__law_draw G__law_item⟩⟩
  have RC3 : Def P w K mg base CX0 3 "_law_race" p__law_race (spRowsN K 3 5) := ⟨⟨_, fd__law_race, He.glo_ok X G (c.fact 34 (f := .glo "_law_race") rfl), Fd__law_race.kp, Fd__law_race.bindsN (ps := p__law_race) (fun _ _ _ _ _ _ us hl => match us, hl with | [_, _], _ => rfl), ok_race Fd__law_race T G__law_item⟩⟩
  have PL3 : Def P w K mg base CX0 3 "_law_plain" p__law_plain (spPlain K 3) := ⟨⟨_, fd__law_plain, He.glo_ok X G (c.fact 35 (f := .glo "_law_plain") rfl), Fd__law_plain.kp, Fd__law_plain.bindsN (ps := p__law_plain) (fun _ _ _ _ _ _ us hl => match us, hl with | [_, _], _ => rfl), ok_plain Fd__law_plain T G__law_draw G__law_item⟩⟩
  have PR4 : Def P w K mg base CX0 3 "_law_pair" p__law_pair (spRowsN K 4 2) := ⟨⟨_, fd__law_pair, He.glo_ok X G (c.fact 33 (f := .glo "_law_pair") rfl), Fd__law_pair.kp, Fd__law_pair.bindsN (ps := p__law_pair) (fun _ _ _ _ _ _ us hl => match us, hl with | [_, _], _ => rfl), ok_pair Fd__law_pair T G__law_draw G__law_item⟩⟩
  have RC4 : Def P w K mg base CX0 3 "_law_race" p__law_race (spRowsN K 4 5) := ⟨⟨_, fd__law_race, He.glo_ok X G (c.fact 34 (f := .glo "_law_race") rfl), Fd__law_race.kp, Fd__law_race.bindsN (ps := p__law_race) (fun _ _ _ _ _ _ us hl => match us, hl with | [_, _], _ => rfl), ok_race Fd__law_race T G__law_item⟩⟩
  have PL4 : Def P w K mg base CX0 3 "_law_plain" p__law_plain (spPlain K 4) := ⟨⟨_, fd__law_plain, He.glo_ok X G (c.fact 35 (f := .glo "_law_plain") rfl), Fd__law_plain.kp, Fd__law_plain.bindsN (ps := p__law_plain) (fun _ _ _ _ _ _ us hl => match us, hl with | [_, _], _ => rfl), ok_plain Fd__law_plain T G__law_draw G__law_item⟩⟩
  have BL1 : Def P w K mg base CX0 3 "_law_block" p__law_block (spBlock K 1) := ⟨⟨_, fd__law_block, He.glo_ok X G (c.fact 37 (f := .glo "_law_block") rfl), Fd__law_block.kp, Fd__law_block.bindsN (ps := p__law_block) (fun _ _ _ _ _ _ us hl => match us, hl with | [_, _, _, _, _], _ => rfl), ⟨(fun _ _ _ _ h => by obtain ⟨_, _, _, _, _, _, _, _, _, h, _⟩ := h; exact absurd h (by decide)), (fun _ _ _ _ _ _ _ _ _ _ _ _ _ h => by obtain ⟨_, _, _, _, _, _, _, _, _, h, _⟩ := h; exact absurd h (by decide))⟩⟩⟩
  have SO2 : Def P w K mg base CX0 4 "_law_some" p__law_some (spSome K 2) := ⟨⟨_, fd__law_some, He.glo_ok X G (c.fact 36 (f := .glo "_law_some") rfl), Fd__law_some.kp, Fd__law_some.bindsN (ps := p__law_some) (fun _ _ _ _ _ _ us hl => match us, hl with | [_, _, _, _, _], _ => rfl), ok_some (k0 := 3) Fd__law_some T (by decide) G__law_draw G__law_item PR2 PR0 RC2 PL2 BL1⟩⟩
  have BL2 : Def P w K mg base CX0 5 "_law_block" p__law_block (spBlock K 2) := ⟨⟨_, fd__law_block, He.glo_ok X G (c.fact 37 (f := .glo "_law_block") rfl), Fd__law_block.kp, Fd__law_block.bindsN (ps := p__law_block) (fun _ _ _ _ _ _ us hl => match us, hl with | [_, _, _, _, _], _ => rfl), ok_block (k0 := 4) Fd__law_block T (by decide) G__law_draw SO2⟩⟩
  have SO3 : Def P w K mg base CX0 6 "_law_some" p__law_some (spSome K 3) := ⟨⟨_, fd__law_some, He.glo_ok X G (c.fact 36 (f := .glo "_law_some") rfl), Fd__law_some.kp, Fd__law_some.bindsN (ps := p__law_some) (fun _ _ _ _ _ _ us hl => match us, hl with | [_, _, _, _, _], _ => rfl), ok_some (k0 := 5) Fd__law_some T (by decide) G__law_draw G__law_item PR3 PR1 RC3 PL3 BL2⟩⟩
  have BL3 : Def P w K mg base CX0 7 "_law_block" p__law_block (spBlock K 3) := ⟨⟨_, fd__law_block, He.glo_ok X G (c.fact 37 (f := .glo "_law_block") rfl), Fd__law_block.kp, Fd__law_block.bindsN (ps := p__law_block) (fun _ _ _ _ _ _ us hl => match us, hl with | [_, _, _, _, _], _ => rfl), ok_block (k0 := 6) Fd__law_block T (by decide) G__law_draw SO3⟩⟩
  have SO4 : Def P w K mg base CX0 8 "_law_some" p__law_some (spSome K 4) := ⟨⟨_, fd__law_some, He.glo_ok X G (c.fact 36 (f := .glo "_law_some") rfl), Fd__law_some.kp, Fd__law_some.bindsN (ps := p__law_some) (fun _ _ _ _ _ _ us hl => match us, hl with | [_, _, _, _, _], _ => rfl), ok_some (k0 := 7) Fd__law_some T (by decide) G__law_draw G__law_item PR4 PR2 RC4 PL4 BL3⟩⟩
  have BL4 : Def P w K mg base CX0 9 "_law_block" p__law_block (spBlock K 4) := ⟨⟨_, fd__law_block, He.glo_ok X G (c.fact 37 (f := .glo "_law_block") rfl), Fd__law_block.kp, Fd__law_block.bindsN (ps := p__law_block) (fun _ _ _ _ _ _ us hl => match us, hl with | [_, _, _, _, _], _ => rfl), ok_block (k0 := 8) Fd__law_block T (by decide) G__law_draw SO4⟩⟩
  have G__law_spec : Def P w K mg base CX0 10 "_law_spec" p__law_spec (spSpec K) := ⟨⟨_, fd__law_spec, He.glo_ok X G (c.fact 38 (f := .glo "_law_spec") rfl), Fd__law_spec.kp, Fd__law_spec.bindsN (ps := p__law_spec) (fun _ _ _ _ _ _ us hl => match us, hl with | [_, _, _], _ => rfl), ok_spec (k0 := 9) Fd__law_spec T (by decide) G__law_parts BL4⟩⟩
  have G__law_wide : Def P w K mg base CX0 11 "_law_wide" p__law_wide (spWide K) := ⟨⟨_, fd__law_wide, He.glo_ok X G (c.fact 44 (f := .glo "_law_wide") rfl), Fd__law_wide.kp, Fd__law_wide.bindsN (ps := p__law_wide) (fun _ _ _ _ _ _ us hl => match us, hl with | [_], _ => rfl), ok_wide (k0 := 10) Fd__law_wide T (by decide) G__law_pool G__law_draw G__law_names G__law_spec⟩⟩
  have G_words_in : Def P w K mg base CX0 1 "words_in" p_words_in (spWordsIn K) := ⟨⟨_, fd_words_in, He.glo_ok X G (c.fact 26 (f := .glo "words_in") rfl), Fd_words_in.kp, Fd_words_in.bindsN (ps := p_words_in) (fun _ _ _ _ _ _ us hl => match us, hl with | [_], _ => rfl), ok_words_in Fd_words_in T⟩⟩
  have LO0 : Def P w K mg base CX0 1 "lines_of" p_lines_of (spLinesOf K 0) := ⟨⟨_, fd_lines_of, He.glo_ok X G (c.fact 25 (f := .glo "lines_of") rfl), Fd_lines_of.kp, Fd_lines_of.bindsN (ps := p_lines_of) (fun _ _ _ _ _ _ us hl => match us, hl with | [_, _], _ => rfl), ⟨fun _ _ _ _ h => h.elim, fun _ _ _ _ _ _ _ _ _ _ _ _ _ h => h.elim⟩⟩⟩
  have IN0 : Def P w K mg base CX0 2 "inner_lines" p_inner_lines (spInner K 0) := ⟨⟨_, fd_inner_lines, He.glo_ok X G (c.fact 27 (f := .glo "inner_lines") rfl), Fd_inner_lines.kp, Fd_inner_lines.bindsN (ps := p_inner_lines) (fun _ _ _ _ _ _ us hl => match us, hl with | [_, _], _ => rfl), ok_inner_lines (k0 := 1) Fd_inner_lines T (by decide) G_lists_of LO0⟩⟩
  have LO1 : Def P w K mg base CX0 3 "lines_of" p_lines_of (spLinesOf K 1) := ⟨⟨_, fd_lines_of, He.glo_ok X G (c.fact 25 (f := .glo "lines_of") rfl), Fd_lines_of.kp, Fd_lines_of.bindsN (ps := p_lines_of) (fun _ _ _ _ _ _ us hl => match us, hl with | [_, _], _ => rfl), ok_lines_of (k0 := 2) Fd_lines_of T (by decide) G_words_in IN0⟩⟩
  have IN1 : Def P w K mg base CX0 4 "inner_lines" p_inner_lines (spInner K 1) := ⟨⟨_, fd_inner_lines, He.glo_ok X G (c.fact 27 (f := .glo "inner_lines") rfl), Fd_inner_lines.kp, Fd_inner_lines.bindsN (ps := p_inner_lines) (fun _ _ _ _ _ _ us hl => match us, hl with | [_, _], _ => rfl), ok_inner_lines (k0 := 3) Fd_inner_lines T (by decide) G_lists_of LO1⟩⟩
  have LO2 : Def P w K mg base CX0 5 "lines_of" p_lines_of (spLinesOf K 2) := ⟨⟨_, fd_lines_of, He.glo_ok X G (c.fact 25 (f := .glo "lines_of") rfl), Fd_lines_of.kp, Fd_lines_of.bindsN (ps := p_lines_of) (fun _ _ _ _ _ _ us hl => match us, hl with | [_, _], _ => rfl), ok_lines_of (k0 := 4) Fd_lines_of T (by decide) G_words_in IN1⟩⟩
  have IN2 : Def P w K mg base CX0 6 "inner_lines" p_inner_lines (spInner K 2) := ⟨⟨_, fd_inner_lines, He.glo_ok X G (c.fact 27 (f := .glo "inner_lines") rfl), Fd_inner_lines.kp, Fd_inner_lines.bindsN (ps := p_inner_lines) (fun _ _ _ _ _ _ us hl => match us, hl with | [_, _], _ => rfl), ok_inner_lines (k0 := 5) Fd_inner_lines T (by decide) G_lists_of LO2⟩⟩
  have LO3 : Def P w K mg base CX0 7 "lines_of" p_lines_of (spLinesOf K 3) := ⟨⟨_, fd_lines_of, He.glo_ok X G (c.fact 25 (f := .glo "lines_of") rfl), Fd_lines_of.kp, Fd_lines_of.bindsN (ps := p_lines_of) (fun _ _ _ _ _ _ us hl => match us, hl with | [_, _], _ => rfl), ok_lines_of (k0 := 6) Fd_lines_of T (by decide) G_words_in IN2⟩⟩
  have IN3 : Def P w K mg base CX0 8 "inner_lines" p_inner_lines (spInner K 3) := ⟨⟨_, fd_inner_lines, He.glo_ok X G (c.fact 27 (f := .glo "inner_lines") rfl), Fd_inner_lines.kp, Fd_inner_lines.bindsN (ps := p_inner_lines) (fun _ _ _ _ _ _ us hl => match us, hl with | [_, _], _ => rfl), ok_inner_lines (k0 := 7) Fd_inner_lines T (by decide) G_lists_of LO3⟩⟩
  have LO4 : Def P w K mg base CX0 9 "lines_of" p_lines_of (spLinesOf K 4) := ⟨⟨_, fd_lines_of, He.glo_ok X G (c.fact 25 (f := .glo "lines_of") rfl), Fd_lines_of.kp, Fd_lines_of.bindsN (ps := p_lines_of) (fun _ _ _ _ _ _ us hl => match us, hl with | [_, _], _ => rfl), ok_lines_of (k0 := 8) Fd_lines_of T (by decide) G_words_in IN3⟩⟩
  have IN4 : Def P w K mg base CX0 10 "inner_lines" p_inner_lines (spInner K 4) := ⟨⟨_, fd_inner_lines, He.glo_ok X G (c.fact 27 (f := .glo "inner_lines") rfl), Fd_inner_lines.kp, Fd_inner_lines.bindsN (ps := p_inner_lines) (fun _ _ _ _ _ _ us hl => match us, hl with | [_, _], _ => rfl), ok_inner_lines (k0 := 9) Fd_inner_lines T (by decide) G_lists_of LO4⟩⟩
  have LO5 : Def P w K mg base CX0 11 "lines_of" p_lines_of (spLinesOf K 5) := ⟨⟨_, fd_lines_of, He.glo_ok X G (c.fact 25 (f := .glo "lines_of") rfl), Fd_lines_of.kp, Fd_lines_of.bindsN (ps := p_lines_of) (fun _ _ _ _ _ _ us hl => match us, hl with | [_, _], _ => rfl), ok_lines_of (k0 := 10) Fd_lines_of T (by decide) G_words_in IN4⟩⟩
  have G_program_text : Def P w K mg base CX0 12 "program_text" p_program_text (spText K) := ⟨⟨_, fd_program_text, He.glo_ok X G (c.fact 24 (f := .glo "program_text") rfl), Fd_program_text.kp, Fd_program_text.bindsN (ps := p_program_text) (fun _ _ _ _ _ _ us hl => match us, hl with | [_], _ => rfl), ok_text (k0 := 11) Fd_program_text T XP (by decide) (mdef_up (by decide) M_rows) M_asks M_signals M_inputs (def_up (by decide) LO5)⟩⟩
  have LL0 : Def P w K mg base CX0 1 "_law_lists" p__law_lists (spLLists K 0) := ⟨⟨_, fd__law_lists, He.glo_ok X G (c.fact 40 (f := .glo "_law_lists") rfl), Fd__law_lists.kp, Fd__law_lists.bindsN (ps := p__law_lists) (fun _ _ _ _ _ _ us hl => match us, hl with | [_], _ => rfl), ok_llists Fd__law_lists T⟩⟩
  have LL1 : Def P w K mg base CX0 1 "_law_lists" p__law_lists (spLLists K 1) := ⟨⟨_, fd__law_lists, He.glo_ok X G (c.fact 40 (f := .glo "_law_lists") rfl), Fd__law_lists.kp, Fd__law_lists.bindsN (ps := p__law_lists) (fun _ _ _ _ _ _ us hl => match us, hl with | [_], _ => rfl), ok_llists Fd__law_lists T⟩⟩
  have LL2 : Def P w K mg base CX0 1 "_law_lists" p__law_lists (spLLists K 2) := ⟨⟨_, fd__law_lists, He.glo_ok X G (c.fact 40 (f := .glo "_law_lists") rfl), Fd__law_lists.kp, Fd__law_lists.bindsN (ps := p__law_lists) (fun _ _ _ _ _ _ us hl => match us, hl with | [_], _ => rfl), ok_llists Fd__law_lists T⟩⟩
  have LL3 : Def P w K mg base CX0 1 "_law_lists" p__law_lists (spLLists K 3) := ⟨⟨_, fd__law_lists, He.glo_ok X G (c.fact 40 (f := .glo "_law_lists") rfl), Fd__law_lists.kp, Fd__law_lists.bindsN (ps := p__law_lists) (fun _ _ _ _ _ _ us hl => match us, hl with | [_], _ => rfl), ok_llists Fd__law_lists T⟩⟩
  have LL4 : Def P w K mg base CX0 1 "_law_lists" p__law_lists (spLLists K 4) := ⟨⟨_, fd__law_lists, He.glo_ok X G (c.fact 40 (f := .glo "_law_lists") rfl), Fd__law_lists.kp, Fd__law_lists.bindsN (ps := p__law_lists) (fun _ _ _ _ _ _ us hl => match us, hl with | [_], _ => rfl), ok_llists Fd__law_lists T⟩⟩
  have LN0 : Def P w K mg base CX0 1 "_law_lines" p__law_lines (spLLines K 0) := ⟨⟨_, fd__law_lines, He.glo_ok X G (c.fact 41 (f := .glo "_law_lines") rfl), Fd__law_lines.kp, Fd__law_lines.bindsN (ps := p__law_lines) (fun _ _ _ _ _ _ us hl => match us, hl with | [_, _], _ => rfl), ⟨fun _ _ _ _ h => h.elim, fun _ _ _ _ _ _ _ _ _ _ _ _ _ h => h.elim⟩⟩⟩
  have LN1 : Def P w K mg base CX0 2 "_law_lines" p__law_lines (spLLines K 1) := ⟨⟨_, fd__law_lines, He.glo_ok X G (c.fact 41 (f := .glo "_law_lines") rfl), Fd__law_lines.kp, Fd__law_lines.bindsN (ps := p__law_lines) (fun _ _ _ _ _ _ us hl => match us, hl with | [_, _], _ => rfl), ok_llines (k0 := 1) Fd__law_lines T (by decide) LL0 LN0⟩⟩
  have LN2 : Def P w K mg base CX0 3 "_law_lines" p__law_lines (spLLines K 2) := ⟨⟨_, fd__law_lines, He.glo_ok X G (c.fact 41 (f := .glo "_law_lines") rfl), Fd__law_lines.kp, Fd__law_lines.bindsN (ps := p__law_lines) (fun _ _ _ _ _ _ us hl => match us, hl with | [_, _], _ => rfl), ok_llines (k0 := 2) Fd__law_lines T (by decide) LL1 LN1⟩⟩
  have LN3 : Def P w K mg base CX0 4 "_law_lines" p__law_lines (spLLines K 3) := ⟨⟨_, fd__law_lines, He.glo_ok X G (c.fact 41 (f := .glo "_law_lines") rfl), Fd__law_lines.kp, Fd__law_lines.bindsN (ps := p__law_lines) (fun _ _ _ _ _ _ us hl => match us, hl with | [_, _], _ => rfl), ok_llines (k0 := 3) Fd__law_lines T (by decide) LL2 LN2⟩⟩
  have LN4 : Def P w K mg base CX0 5 "_law_lines" p__law_lines (spLLines K 4) := ⟨⟨_, fd__law_lines, He.glo_ok X G (c.fact 41 (f := .glo "_law_lines") rfl), Fd__law_lines.kp, Fd__law_lines.bindsN (ps := p__law_lines) (fun _ _ _ _ _ _ us hl => match us, hl with | [_, _], _ => rfl), ok_llines (k0 := 4) Fd__law_lines T (by decide) LL3 LN3⟩⟩
  have LN5 : Def P w K mg base CX0 6 "_law_lines" p__law_lines (spLLines K 5) := ⟨⟨_, fd__law_lines, He.glo_ok X G (c.fact 41 (f := .glo "_law_lines") rfl), Fd__law_lines.kp, Fd__law_lines.bindsN (ps := p__law_lines) (fun _ _ _ _ _ _ us hl => match us, hl with | [_, _], _ => rfl), ok_llines (k0 := 5) Fd__law_lines T (by decide) LL4 LN4⟩⟩
  have G__law_head : Def P w K mg base CX0 1 "_law_head" p__law_head (spLHead K) := ⟨⟨_, fd__law_head, He.glo_ok X G (c.fact 42 (f := .glo "_law_head") rfl), Fd__law_head.kp, Fd__law_head.bindsN (ps := p__law_head) (fun _ _ _ _ _ _ us hl => match us, hl with | [_], _ => rfl), ok_lhead Fd__law_head T⟩⟩
  have G__law_text : Def P w K mg base CX0 7 "_law_text" p__law_text (spLText K) := ⟨⟨_, fd__law_text, He.glo_ok X G (c.fact 43 (f := .glo "_law_text") rfl), Fd__law_text.kp, Fd__law_text.bindsN (ps := p__law_text) (fun _ _ _ _ _ _ us hl => match us, hl with | [_], _ => rfl), ok_ltext (k0 := 6) Fd__law_text T (by decide) G__law_head LN5⟩⟩
  have G__law_turned : Def P w K mg base CX0 1 "_law_turned" p__law_turned (spTurned K) := ⟨⟨_, fd__law_turned, He.glo_ok X G (c.fact 45 (f := .glo "_law_turned") rfl), Fd__law_turned.kp, Fd__law_turned.bindsN (ps := p__law_turned) (fun _ _ _ _ _ _ us hl => match us, hl with | [_], _ => rfl), ok_turned Fd__law_turned T⟩⟩
  have G__law_made : Def P w K mg base CX0 24 "_law_made" p__law_made (spLMade K) := ⟨⟨_, fd__law_made, He.glo_ok X G (c.fact 39 (f := .glo "_law_made") rfl), Fd__law_made.kp, Fd__law_made.bindsN (ps := p__law_made) (fun _ _ _ _ _ _ us hl => match us, hl with | [_, _], _ => rfl), ok_made (k0 := 23) (kp := 22) Fd__law_made T (by decide) kcProgram⟩⟩
  exact ok_law (k0 := 24) (kp := 22) (k1 := 11) (k2 := 24) (k3 := 7) (k4 := 12) Fd_law T (by decide) (by decide) (by decide) (by decide) (by decide) (by decide) kcProgram G__law_wide G__law_made G__law_text G__law_turned G_program_text
end
end OR
open PySem PySem.W PySem.Calls PyProof.Rows
theorem PySem.Challenge.cw_openruns_k18_program_text_holds : PySem.Challenge.rw_openruns_k18_program_text.Holds := by
  w_on; o_law
  refine HandSHeadRun.head_any (r := OR.Row0) (q := view OR.Row0.prog [78]) (H := OR.hk) (ob := OR.ob) (M := 12000) (loose := OR.loose) (d := HandSHeadRun.topDef OR.Row0.prog 78) (kwd := []) OR.ob_eq
    (by kernel_rfl) (fun s => by kernel_rfl) OR.run (by kernel_rfl) (by kernel_rfl) (by kernel_rfl) (by rfl) (by first | assumption | decide +kernel) (by decide +kernel) ⟨rfl, rfl, rfl, rfl, rfl, by decide +kernel⟩ ?hw ?hc
  case hw => w_witness2
  case hc =>
    refine L2.walk_ofE (l := PySem.Challenge.rw_openruns_k18_program_text) (n := 63) (k := 25) (x := "_law_script") (CX := L2.CX0) rfl (by decide) (by kernel_rfl) ⟨rfl, by decide, by decide⟩ ?F (fun _ _ _ _ z => z)
    intro w mg fa h Y G hmg0
    obtain ⟨K, KX, c⟩ := Y
    have hmg : mg ("law" : PySem.Str) = some (.ref fa) := by
      have e : (HandSHeadRun.topDef OR.Row0.prog 78).name = ("law" : PySem.Str) := by kernel_rfl
      rw [← e]
      exact hmg0
    obtain ⟨fd, hb, hF⟩ := OR.facts (P := (PySem.Challenge.rw_openruns_k18_program_text).prog) (w := w) KX G hmg c.more c.t
    exact ⟨K, fd, OR.spLaw K, KX, hb, fun H a ns hl _ hS => ⟨a, ns, rfl, hS, hl, fun _ => rfl⟩, hF⟩
#print axioms PySem.Challenge.cw_openruns_k18_program_text_holds
