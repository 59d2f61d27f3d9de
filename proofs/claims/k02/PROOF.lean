import PyProof.Rows.All
import HandS.ForMost
import HandS.Set
import HandS.SetBool
import HandS.SetTxt0
import HandS.SetKeys
import HandS.Strs
import PyProof.Rows.SortShellAny
import HandS.DictComp
import Wide.All
import OpenK.AllK
import Wide.FinOn
import HandS.Exc
import HandS.ExcInit
import HandS.ExcField
import HandS.IsInst
import HandS.ExcIs
import KE.KExcInit
import KE.KExcIs
import HandS.Wide
import HandS.HeadHook2
import HandS.HeadEnd
import HandS.Head2
import HandS.ListEq
import HandS.Flow
import HandS.Codes
import HandS.Steps
import HandS.ClsMeth
import HandS.Defaults
import HandS.CallRecv
import HandS.SetFor
import HandS.HeadHook4
import HandS.TryOnly
import HandS.Zip
import HandS.Walk
import HandS.More
import HandS.ExcOwn
import HandS.WordsExc
import HandS.TupAny
import HandS.MakeKwOnly
import HandS.Text
import KE.KDictSum
import KE.KDictWalk
import HandS.HotCalls
import KE.SortData
import PyProof.Rows.SortWalk
import PySem.Challenge.RW_openruns_k02_paths_of_rows
set_option Elab.async false
set_option maxRecDepth 100000
set_option maxHeartbeats 4000000
set_option linter.all false
/-! sets of texts that can be walked: their members in a list, by an order of no meaning -/
namespace TS2
open PySem PySem.Spec PyProof.Rows L2 PySem.Froz
def wordAt (e : Int × Value) : Str := match e.2 with | .str k _ => k | _ => Str.empty
/-- what stands in a set: the texts l, each once, in a table that can be walked -/
structure TxR (P : PySem.Program) (w : World) (D : SD) (l : List Str) : Prop where
  ok : TxOk P w D l
  nd : l.Nodup
  keys : (D.1.toList.map wordAt).Perm l
  txt : ∀ e ∈ D.1.toList, ∃ k u, e.2 = Value.str k u
  ris : Ris D.2.2.place.toList
  led : w.params.followText "set-order" = true ∨ D.2.2.led = true
section
variable {P : PySem.Program} {w : World}
theorem TxR.none {ep : Nat} {t : SetTable} (hf : t.fits 0 = true) (hr : Ris t.place.toList) (hl : w.params.followText "set-order" = true ∨ t.led = true) : TxR P w (#[], ep, t) [] :=
  ⟨TxOk.nil hf, List.nodup_nil, List.Perm.refl _, fun e he => by simp at he, hr, hl⟩
theorem tail_fields (ep : Nat) (es1 : Array (Int × Value)) (t2 : SetTable) (wd : Bool) :
    (tailTx ep es1 t2 wd).1.toList.Perm es1.toList ∧ (Ris t2.place.toList → Ris (tailTx ep es1 t2 wd).2.2.place.toList) ∧ ((tailTx ep es1 t2 wd).2.2.led = t2.led) := by
  unfold tailTx
  by_cases c : (!wd && t2.tooFull) = true
  · rw [if_pos c]
    exact ⟨relayAll_perm t2 es1 _, fun _ => relayAll_ris t2 es1 _, relayAll_led t2 es1 _⟩
  · rw [if_neg c]
    exact ⟨List.Perm.refl _, id, rfl⟩
theorem TxR.add {D : SD} {l : List Str} {k : Str} (u : Tok) (F : TxR P w D l) (hk : k ∉ l) : TxR P w (addTx (hashStr w k) (.str k u) D) (k :: l) := by
  obtain ⟨es, ep, t⟩ := D
  have pm := layNew_perm t es (hashStr w k) (.str k u)
  have hr := layNew_ris t es (hashStr w k) (.str k u) F.ris
  have hl := layNew_led t es (hashStr w k) (.str k u)
  rw [Array.toList_push] at pm
  have pc := pm.trans (List.perm_append_singleton _ _)
  have tf := tail_fields ep (layNew t es (hashStr w k) (.str k u)).1 (if (layNew t es (hashStr w k) (.str k u)).2.1.plain = true then { (layNew t es (hashStr w k) (.str k u)).2.1 with plain := false } else (layNew t es (hashStr w k) (.str k u)).2.1) (layNew t es (hashStr w k) (.str k u)).2.2.1
  have pt := tf.1.trans pc
  refine ⟨add_ok u F.ok, List.nodup_cons.mpr ⟨hk, F.nd⟩, (pt.map wordAt).trans ?_, fun e he => ?_, tf.2.1 ?_, F.led.imp id fun z => ?_⟩
  · rw [List.map_cons]
    exact F.keys.cons _
  · rcases List.mem_cons.mp (pt.mem_iff.mp he) with z | z
    · exact ⟨k, u, by rw [z]⟩
    · exact F.txt e z
  · split
    · exact hr
    · exact hr
  · refine tf.2.2.trans ?_
    split
    · exact hl.trans z
    · exact hl.trans z
/-- the set of texts at a -/
def TxSet (P : PySem.Program) (w : World) (h : Heap) (a : Addr) (l : List Str) : Prop := ∃ D : SD, h.get? a = some (sObj "set" D) ∧ TxR P w D l
def TxO (P : PySem.Program) (w : World) (a : Addr) (l : List Str) : HO := .ext fun h => TxSet P w h a l
/-- k put into l -/
def put (l : List Str) (k : Str) : List Str := if k ∈ l then l else k :: l
theorem put_len (l : List Str) (k : Str) : (put l k).length ≤ l.length + 1 := by
  unfold put
  split
  · omega
  · exact Nat.le_refl _
theorem TxSet.keep {h h' : Heap} {a : Addr} {l : List Str} (R : TxSet P w h a l) (k : ∀ o, h.get? a = some o → h'.get? a = some o) : TxSet P w h' a l := by
  obtain ⟨D, e, r⟩ := R
  exact ⟨D, k _ e, r⟩
theorem txO_new {H : Hp} {h : Heap} {a : Addr} {l : List Str} (R : TxSet P w h a l) : ObjOk P w H h a (TxO P w a l) := by
  have ⟨D, e, _⟩ := R
  exact ⟨R, ⟨_, e⟩, fun h1 h2 p k => TxSet.keep p k⟩
theorem txSet_fresh {h : Heap} : TxSet P w (h.push { cls := .type "set", dict := Option.none, data := .set #[] 0 (.fresh 0 0 (!w.params.followText "set-order")) }) h.objs.size [] :=
  ⟨(#[], 0, _), Heap.get?_push_size _ rfl, TxR.none (by rfl) List.Pairwise.nil (by
    show _ ∨ (!w.params.followText "set-order") = true
    cases w.params.followText "set-order"
    · exact .inr rfl
    · exact .inl rfl)⟩
variable {A : Around} {E : Value → Shared → Prop} {s : Shared} {a : Addr} {l : List Str}
theorem hashed_old {D : SD} {k : Str} {u : Tok} {Q : Bool → Shared → Prop} (ho : s.heap.get? a = some (sObj "set" D)) (F : TxOk P w D l) (hk : k ∈ l) (hb : l.length < scanBound) (h : Q false s) :
    wpAny (model P w) A (setAddHashed a (.str k u) (hashStr w k)) Q E s := by
  obtain ⟨es, ep, t⟩ := D
  have hd : (sObj "set" (es, ep, t)).data = .set es ep t := rfl
  have hsz : es.size = l.length := F.sz
  have hb0 : es.size < scanBound := by omega
  have hkey : (strKind P w).is k (.str k u) = true := is_str k u
  unfold setAddHashed setAddHashedIn
  refine wpAny_holding (wpAny_bind (wpAny_setState_of ho hd F.fit ?_))
  dsimp only
  rw [byScan_of rfl hb0 F.el]
  simp only [↓reduceIte]
  unfold setAddByScan
  refine wpAny_bind ?_
  refine wpAny_bind (wpAny_rule ?_)
  refine wpAny_bind (wpAny_setScan_of (knd := strKind P w) (k := k) hkey ho hd F.fit F.el ?_)
  have hs : (List.findIdx? (fun e => (strKind P w).is k e.2) es.toList).isSome = true := by
    rw [List.findIdx?_isSome]
    obtain ⟨e, he, q⟩ := (F.mem k).mp hk
    exact List.any_eq_true.mpr ⟨e, he, q⟩
  obtain ⟨j, hj⟩ := Option.isSome_iff_exists.mp hs
  rw [hj]
  dsimp only
  exact wpAny_pure (wpAny_pure h)
theorem setTx_of {D : SD} (ho : s.heap.get? a = some (sObj "set" D)) (F : TxOk P w D l) (hb : l.length < scanBound) : s.heap.SetOf (strKind P w) a (fun k => decide (k ∈ l)) l.length := by
  obtain ⟨es, ep, t⟩ := D
  have hsz : es.size = l.length := F.sz
  exact ⟨_, es, ep, t, ho, ⟨rfl, rfl, rfl⟩, rfl, F.el, fun k => by rw [decide_eq_true_eq]; exact F.mem k, by rw [hsz]; exact hb, F.fit, hsz⟩
/-- s.add(k) -/
theorem tx_add {k : Str} {u : Tok} {Q : Value → Shared → Prop} (R : TxSet P w s.heap a l) (room : l.length + 1 < scanBound)
    (hQ : ∀ h', Heap.SameBut a s.heap h' → TxSet P w h' a (put l k) → Q .none { s with heap := h', toks := s.toks + 1 }) :
    wpAny (model P w) A (call (.builtin "set.add") [.ref a, .str k u]) Q E s := by
  obtain ⟨D, ho, G⟩ := R
  have hS := setTx_of ho G.ok (by omega)
  refine wpAny_call_entry F.slot_set_add hS.typeIs F.entry_set_add ?_ (F.args_set_add_2 _ _)
  unfold Builtin.«set.add» Builtin.Frozenset.oneOther
  simp only [List.isEmpty_nil, bind_assoc]
  unfold Builtin.Frozenset.addrOf setAdd
  refine wpAny_bind (wpAny_pure ?_)
  try dsimp only
  refine wpAny_bind (wpAny_pure ?_)
  try dsimp only
  refine wpAny_bind ?_
  refine wpAny_holding ?_
  refine wpAny_bind ((strKind P w).pyHash (is_str k u) ?_)
  by_cases hk : k ∈ l
  · refine hashed_old (s := { s with toks := s.toks + 1 }) ho G.ok hk (by omega) ?_
    show wpAny _ _ (ret Value.none) _ _ _
    exact wpAny_pure ⟨_, rfl, hQ s.heap (Heap.SameBut.refl a s.heap) ⟨D, ho, by rw [put, if_pos hk]; exact G⟩⟩
  · refine add_x (s := { s with toks := s.toks + 1 }) ho G.ok hk room ?_
    show wpAny _ _ (ret Value.none) _ _ _
    refine wpAny_pure ⟨_, rfl, hQ _ (Heap.SameBut.update s.heap a _) ⟨addTx (hashStr w k) (.str k u) D, get_upd _ ho rfl, ?_⟩⟩
    rw [put, if_neg hk]
    exact G.add u hk
end
section
variable {X : Cx}
theorem txO_get {pins : List (Addr × Obj)} {σ : L2.St} {H : Hp} {s : Shared} {a : Addr} {l : List Str} (I : Inv X pins σ H s) (ha : H a = some (TxO X.prog X.w a l)) : TxSet X.prog X.w s.heap a l := (I.hok a _ ha).1
theorem addT_ok {pins : List (Addr × Obj)} {σ : L2.St} {H : Hp} {s : Shared} {E : Value → Shared → Prop} {D : Addr} {l : List Str} {k : Str} {u : Tok} {Q : Value → Shared → Prop} (I : Inv X pins σ H s) (hD : H D = some (TxO X.prog X.w D l)) (room : l.length + 1 < scanBound)
    (h : ∀ s', Inv X pins σ (upd H D (TxO X.prog X.w D (put l k))) s' → Q .none s') : wpAny (model X.prog X.w) X.A (call (.builtin "set.add") [.ref D, .str k u]) Q E s := by
  refine tx_add (txO_get I hD) room fun h' sb new => ?_
  have ⟨_, e, _⟩ := id new
  exact h _ (I.write (e := D) (t' := s.toks + 1) (by rw [hD]; trivial) (.inl rfl) (fun b o hb hu => (sb.2 b hb).trans hu) ⟨_, e⟩ (txO_new new))
end
end TS2

set_option Elab.async false
set_option maxRecDepth 100000
set_option maxHeartbeats 4000000
set_option linter.all false
/-! {elt for t0 in i0 for t1 in i1}: texts into a new set -/
namespace TS2
open PySem PySem.Spec PyProof.Rows L2
abbrev SC2 (elt t0 i0 t1 i1 : Expr) (sc : Scope) (pos : Pos) : Expr := .SetComp elt [⟨t0, i0, [], 0⟩, ⟨t1, i1, [], 0⟩] sc pos
section
variable {P : PySem.Program} {w : World} {A : Around} {R : Result → Shared → Prop} {s : Shared} {elt t0 i0 t1 i1 : Expr} {sc : Scope} {pos : Pos} {it acc : Value} {env : Env}
theorem turn_out (elt t0 i0 t1 i1 : Expr) (sc : Scope) (pos : Pos) (it acc : Value) (env : Env) : compTurn (SC2 elt t0 i0 t1 i1 sc pos) 0 it acc env = (do
    standAt i0.pos
    match ← pyNext it with
    | none => pure (.done .next)
    | some v =>
      letOwnedTupleGo t0 it v
      assign t0 env v
      let x ← eval i1 env
      standAt i1.pos
      let x ← foldedSetIterable i1 env x
      let _ ← runOwn (.compStart (SC2 elt t0 i0 t1 i1 sc pos) 1 (← holding [x] (pyIter x)) acc env) env
      again (.compLoop (SC2 elt t0 i0 t1 i1 sc pos) 0 it acc env)) := by rfl
theorem turn_in (elt t0 i0 t1 i1 : Expr) (sc : Scope) (pos : Pos) (it acc : Value) (env : Env) : compTurn (SC2 elt t0 i0 t1 i1 sc pos) 1 it acc env = (do
    standAt i1.pos
    match ← pyNext it with
    | none => pure (.done .next)
    | some v =>
      letOwnedTupleGo t1 it v
      assign t1 env v
      (do let v ← eval elt env; standAt elt.pos; let _ ← call (.builtin "set.add") [acc, v])
      again (.compLoop (SC2 elt t0 i0 t1 i1 sc pos) 1 it acc env)) := by rfl
abbrev Nb (P : PySem.Program) (w : World) (A : Around) (env : Env) (R : Result → Shared → Prop) : Value → Shared → Prop := notedBy (model P w) A env fun e s' => R (.error e) s'
theorem loop_out (hs : ∀ x, foldedSetIterable i1 env x = pure x) (I : Nat → Shared → Prop)
    (turn : ∀ n s, I n s → wpAny (model P w) A (pyNext it) (fun r s1 => match r with
      | none => R (.ok .next) s1
      | some v => wpAny (model P w) A (letOwnedTupleGo t0 it v) (fun _ s2 => wpAny (model P w) A (assign t0 env v) (fun _ s3 =>
          wpAny (model P w) A (eval i1 env) (fun x s4 => wpAny (model P w) A (pyIter x) (fun it1 s5 =>
            codeAny (model P w) A (.compStart (SC2 elt t0 i0 t1 i1 sc pos) 1 it1 acc env) (fun r s' => match r with
              | .ok _ => ∃ m, m < n ∧ I m s'
              | .error _ => False) s5) (Nb P w A env R) s4) (Nb P w A env R) s3) (Nb P w A env R) s2) (Nb P w A env R) s1) (Nb P w A env R) s)
    (n : Nat) (h : I n s) : codeAny (model P w) A (.compLoop (SC2 elt t0 i0 t1 i1 sc pos) 0 it acc env) R s := by
  refine codeAny_loop rfl I (fun n s hI => ?_) n h
  show wpAny _ A ((compTurn (SC2 elt t0 i0 t1 i1 sc pos) 0 it acc env).onRaise (fun x => do noteFrame x env; theTreesLotGoes x)) _ _ s
  refine wpAny_noted ?_
  rw [turn_out]
  refine wpAny_bind (wpAny_standAt (wpAny_bind (wpAny_mono (turn n s hI) (fun r s1 g1 => ?_) fun _ _ z => z)))
  cases r with
  | none => exact wpAny_pure g1
  | some v =>
    refine wpAny_bind (wpAny_mono g1 (fun _ s2 g2 => ?_) fun _ _ z => z)
    refine wpAny_bind (wpAny_mono g2 (fun _ s3 g3 => ?_) fun _ _ z => z)
    refine wpAny_bind (wpAny_mono g3 (fun x s4 g4 => ?_) fun _ _ z => z)
    refine wpAny_bind (wpAny_standAt (wpAny_bind (wpAny_of_eq (hs x) (wpAny_bind (wpAny_holding (wpAny_mono g4 (fun it1 s5 g5 => ?_) fun _ _ z => z))))))
    refine wpAny_bind (wpAny_runOwn ?_)
    rw [Around.mark_none]
    refine codeAny_mono g5 fun r s' hr => ?_
    cases r with
    | ok f =>
      first
        | exact wpAny_pure ⟨rfl, hr⟩
        | exact wpAny_bind (wpAny_pure (wpAny_pure ⟨rfl, hr⟩))
    | error e => exact hr.elim
theorem loop_in (I : Nat → Shared → Prop)
    (turn : ∀ n s, I n s → wpAny (model P w) A (pyNext it) (fun r s1 => match r with
      | none => R (.ok .next) s1
      | some v => wpAny (model P w) A (letOwnedTupleGo t1 it v) (fun _ s2 => wpAny (model P w) A (assign t1 env v) (fun _ s3 =>
          wpAny (model P w) A (eval elt env) (fun x s4 => wpAny (model P w) A (call (.builtin "set.add") [acc, x]) (fun _ s5 => ∃ m, m < n ∧ I m s5) (Nb P w A env R) s4) (Nb P w A env R) s3) (Nb P w A env R) s2) (Nb P w A env R) s1) (Nb P w A env R) s)
    (n : Nat) (h : I n s) : codeAny (model P w) A (.compLoop (SC2 elt t0 i0 t1 i1 sc pos) 1 it acc env) R s := by
  refine codeAny_loop rfl I (fun n s hI => ?_) n h
  show wpAny _ A ((compTurn (SC2 elt t0 i0 t1 i1 sc pos) 1 it acc env).onRaise (fun x => do noteFrame x env; theTreesLotGoes x)) _ _ s
  refine wpAny_noted ?_
  rw [turn_in]
  refine wpAny_bind (wpAny_standAt (wpAny_bind (wpAny_mono (turn n s hI) (fun r s1 g1 => ?_) fun _ _ z => z)))
  cases r with
  | none => exact wpAny_pure g1
  | some v =>
    refine wpAny_bind (wpAny_mono g1 (fun _ s2 g2 => ?_) fun _ _ z => z)
    refine wpAny_bind (wpAny_mono g2 (fun _ s3 g3 => ?_) fun _ _ z => z)
    exact wpAny_bind (wpAny_bind (wpAny_mono g3 (fun x s4 g4 => wpAny_bind (wpAny_standAt (wpAny_bind (wpAny_mono g4 (fun _ s5 g5 => wpAny_pure (wpAny_pure ⟨rfl, g5⟩)) fun _ _ z => z)))) fun _ _ z => z))
theorem start_in (h0 : codeAny (model P w) A (.compLoop (SC2 elt t0 i0 t1 i1 sc pos) 1 it acc env) R s)
    (h : wpAny (model P w) A (pyIter it) (fun it' s' => codeAny (model P w) A (.compLoop (SC2 elt t0 i0 t1 i1 sc pos) 1 it' acc env) R s') (Nb P w A env R) s) :
    codeAny (model P w) A (.compStart (SC2 elt t0 i0 t1 i1 sc pos) 1 it acc env) R s := by
  refine codeAny_of_tree ?_
  show wpAny _ _ ((compStart (SC2 elt t0 i0 t1 i1 sc pos) 1 it acc env).onRaise (fun x => do noteFrame x env; standAt theWindowsPlace)) _ _ s
  refine wpAny_notedAt ?_
  unfold compStart
  show wpAny _ _ (ask >>= _) _ _ s
  refine wpAny_bind (wpAny_askSetting (wpAny_ite ?_))
  split
  · first
      | exact wpAny_bind (wpAny_pure (wpAny_pure (And.intro rfl h0)))
      | exact wpAny_pure (And.intro rfl h0)
  · first
      | exact wpAny_bind (wpAny_rule (wpAny_bind (wpAny_standAt (wpAny_bind (wpAny_mono h (fun it' s' q => wpAny_pure (And.intro rfl q)) fun _ _ x => x)))))
      | (refine wpAny_bind (wpAny_rule ?_); show wpAny _ _ (standAt i1.pos >>= _) _ _ s; exact wpAny_bind (wpAny_standAt (wpAny_bind (wpAny_mono h (fun it' s' q => wpAny_pure (And.intro rfl q)) fun _ _ x => x))))
end
section
variable {X : Cx}
/-- the reading: an outer walk by W, each turn of it an inner walk by W1, each turn of that puts a text into D -/
def tSc2 (P : PySem.Program) (w : World) (wi : TI) (g : TG) (wi1 : TI) (g1 : TG) (te : TE) (vs vs1 : List Nat) : TE := fun σ H Q => wi σ H fun J H1 => ∀ D, H1 D = none → ∃ W : Nat → Nat → Hp → Prop, (∃ m, W 0 m (upd H1 D (TxO P w D []))) ∧ ∀ i m H, W i m H →
  (J.stop i H ∧ Q (.ref D) H) ∨ (J.go i H ∧ ∃ Nx : Hp → Prop, (∀ H', Nx H' → ∃ m', m' < m ∧ W (i + 1) m' H') ∧ ∀ x H', J.yld i H x H' → g x (wipe σ vs) H' fun σ2 H2 => wipe σ2 vs = wipe σ vs ∧
    wi1 σ2 H2 fun J1 H4 => ∃ W1 : Nat → Nat → Hp → Prop, (∃ m, W1 0 m H4) ∧ ∀ j k H, W1 j k H →
      (J1.stop j H ∧ Nx H) ∨ (J1.go j H ∧ ∃ Nx1 : Hp → Prop, (∀ H', Nx1 H' → ∃ k', k' < k ∧ W1 (j + 1) k' H') ∧ ∀ x H', J1.yld j H x H' → g1 x (wipe σ2 vs1) H' fun σ3 H5 => wipe σ3 vs1 = wipe σ2 vs1 ∧
        te σ3 H5 fun y H7 => ∃ (k : Str) (l : List Str), y = .str k ∧ H7 D = some (TxO P w D l) ∧ l.length + 1 < scanBound ∧ Nx1 (upd H7 D (TxO P w D (put l k)))))
theorem pe_sc2 {elt t0 i0 t1 i1 : Expr} {sc : Scope} {own : List (Str × Nat)} {vs1 : List Nat} {pos : Pos} {wi wi1 : TI} {g g1 : TG} {te : TE} (calm : X.calm = true) (nd : X.N.Nodup) (hi : PI X t0 i0 wi) (ok : BlkOk X.N X.env.scope sc own) (hv : ∀ i ∈ vs1, i ∈ own.map (·.2))
    (hg : ∀ (s : Shared) (H : Hp) (C : Addr) (cl : List (Str × Addr)) (fp : List Addr), PG (X.blk s H sc (compEnvC sc cl C X.env) fp) t0 g)
    (hi1 : ∀ (s : Shared) (H : Hp) (C : Addr) (cl : List (Str × Addr)) (fp : List Addr), PI (X.blk s H sc (compEnvC sc cl C X.env) fp) t1 i1 wi1)
    (hg1 : ∀ (s : Shared) (H : Hp) (C : Addr) (cl : List (Str × Addr)) (fp : List Addr), PG (X.blk s H sc (compEnvC sc cl C X.env) fp) t1 g1)
    (he : ∀ (s : Shared) (H : Hp) (C : Addr) (cl : List (Str × Addr)) (fp : List Addr), PE (X.blk s H sc (compEnvC sc cl C X.env) fp) elt te) (hs : ∀ x, foldedSetIterable i0 X.env x = pure x := by intro _; rfl)
    (hs1 : ∀ env x, foldedSetIterable i1 env x = pure x := by intro _ _; rfl) : PE X (SC2 elt t0 i0 t1 i1 sc pos) (tSc2 X.prog X.w wi g wi1 g1 te (own.map (·.2)) vs1) := by
  refine ⟨fun pins s σ H Q I h => ?_⟩
  rw [PpSet.eval_SetComp]
  have frees : ∀ y ∈ sc.names, y.2 = .free → ∃ c, X.env.cells.lookup y.1 = some c := fun y hy e =>
    (ok.free y hy e).elim (fun z => I.ok.has _ (.inl z)) fun z => I.ok.has _ (.inr z)
  refine wpAny_comprehension_free (use := none) rfl hs (closure_ok frees) ok.kind (fun y hy e => by rw [ok.uniq y hy, e]) (thn (hi.run pins s σ H _ I h) fun xv sA hx => thn hx fun itv sB hB => ?_)
  obtain ⟨it, fp, tn, J, HB, rfl, IB, T, stB, fB, q⟩ := hB
  refine PpSet.newSet_ok (newEnv_comp ?_)
  obtain ⟨W, ⟨m0, w0⟩, turn⟩ := q sB.heap.objs.size (IB.hok.fresh (Nat.le_refl _))
  generalize eD : sB.heap.objs.size = D at w0 turn
  generalize eC : ({ sB with heap := sB.heap.push { cls := .type "set", dict := none, data := .set #[] 0 (.fresh 0 0 (!X.w.params.followText "set-order")) } } : Shared) = sC
  have hC : sC.heap = sB.heap.push { cls := .type "set", dict := none, data := .set #[] 0 (.fresh 0 0 (!X.w.params.followText "set-order")) } := by rw [← eC]
  generalize eH : upd HB D (TxO X.prog X.w D []) = HC at w0
  have IC : Inv X pins σ HC sC := by
    rw [← eC, ← eH]
    refine IB.laid (t' := sB.toks) (fun b o e => Heap.get?_push_of_some _ e) (Nat.le_of_eq eD) (txO_new ?_)
    rw [← eD]
    exact txSet_fresh
  have young : ∀ b ∈ fp, b < sB.heap.objs.size := fun b hb => (T.obj _ _ stB b hb).elim fun o e => Heap.lt_size e.1
  have fC : ∀ b ∈ fp, FpOk X pins HC b ∧ b < sC.heap.objs.size := fun b hb => by
    have lt := young b hb
    have nb : HC b = none := by
      rw [← eH, upd_ne (by rw [← eD]; exact Nat.ne_of_lt lt)]
      exact (fB b hb).1
    exact ⟨⟨nb, (fB b hb).2⟩, by rw [hC, Heap.size_push]; exact Nat.lt_succ_of_lt lt⟩
  have stC : tn 0 sC.heap := T.keep _ _ _ stB fun b _ o e => by rw [hC]; exact Heap.get?_push_of_some _ e
  have IE := block_start IC ok nd fC
  have pg := hg sC HC sC.heap.objs.size (cellsFrom (sC.heap.objs.size + 1) sc.names (cloFrom X.env.cells sc.names [])) fp
  have pe := he sC HC sC.heap.objs.size (cellsFrom (sC.heap.objs.size + 1) sc.names (cloFrom X.env.cells sc.names [])) fp
  have pi1 := hi1 sC HC sC.heap.objs.size (cellsFrom (sC.heap.objs.size + 1) sc.names (cloFrom X.env.cells sc.names [])) fp
  have pg1 := hg1 sC HC sC.heap.objs.size (cellsFrom (sC.heap.objs.size + 1) sc.names (cloFrom X.env.cells sc.names [])) fp
  show codeAny _ _ (.compStart (SC2 elt t0 i0 t1 i1 sc pos) 0 (.ref it) (.ref D) (compEnvC sc (cellsFrom (sC.heap.objs.size + 1) sc.names (cloFrom X.env.cells sc.names [])) sC.heap.objs.size X.env)) (compPost (model X.prog X.w) X.A X.xe none (EP X pins σ Q) (.ref D) sC.heap.objs.size) { sC with heap := pushCells (sC.heap.push { cls := .type "dict", data := .dict #[] }) sc.names }
  generalize eN : compEnvC sc (cellsFrom (sC.heap.objs.size + 1) sc.names (cloFrom X.env.cells sc.names [])) sC.heap.objs.size X.env = ce at IE pg pe pi1 pg1 ⊢
  have eL : ce.locals = sC.heap.objs.size := by rw [← eN]; rfl
  generalize eE : ({ sC with heap := pushCells (sC.heap.push { cls := .type "dict", data := .dict #[] }) sc.names } : Shared) = sE at IE ⊢
  have stE : tn 0 sE.heap := T.keep _ _ _ stC fun b _ o e => by rw [← eE]; exact pushCells_keeps _ _ _ _ (Heap.get?_push_of_some _ e)
  have nfp : ∀ b ∈ fp, HC b = none := fun b hb => (fC b hb).1.1
  have stat : ∀ {σ' : L2.St} {H' : Hp} {s' : Shared}, Inv (X.blk sC HC sc ce fp) [] σ' H' s' → (∀ b ∈ fp, H' b = none) → ∀ b ∈ fp, FpOk (X.blk sC HC sc ce fp) [] H' b := fun {σ' H' s'} I' hn b hb =>
    ⟨hn b hb, (I'.ok.exf b hb).1, I'.ok.exfs b hb, .inl hb, fun x c e => (I'.ok.exf b hb).2 x c e, fun p hp => by simp at hp⟩
  have loop : codeAny (model X.prog X.w) X.A (.compLoop (SC2 elt t0 i0 t1 i1 sc pos) 0 (.ref it) (.ref D) ce) (compPost (model X.prog X.w) X.A X.xe none (EP X pins σ Q) (.ref D) sC.heap.objs.size) sE := by
    refine loop_out (hs1 ce) (fun n s' => ∃ i H', Inv (X.blk sC HC sc ce fp) [] (wipe σ (own.map (·.2))) H' s' ∧ tn i s'.heap ∧ (∀ b ∈ fp, H' b = none) ∧ W i n H') ?_ m0 ⟨0, HC, IE, stE, nfp, w0⟩
    rintro n s5 ⟨i, H5, I5, st5, n5, w5⟩
    rcases turn i n H5 w5 with ⟨stop, qq⟩ | ⟨go, Nx, hNx, step⟩
    · refine thnF (T.done (X.blk sC HC sc ce fp) rfl rfl rfl calm i [] s5 _ H5 (fun _ _ => False) I5 (stat I5 n5) st5 stop) fun r s6 ⟨hr, I6⟩ => ?_
      subst hr
      have IG : Inv X pins σ H5 s6 := IC.call' (ch := fp) I6.os I6.base I6.hok I6.bare fun b hb => ⟨(fC b hb).1.2.2.2.1, (fC b hb).1.2.1, (fC b hb).1.2.2.2.2.1, (fC b hb).1.2.2.2.2.2⟩
      have nC : H5 sC.heap.objs.size = none := by
        have z : H5 ce.locals = none := I6.free
        rwa [eL] at z
      obtain ⟨m, hn, _⟩ := I6.loc
      have hn : s6.heap.Ns ce.locals m := hn
      rw [eL] at hn
      obtain ⟨f0, f1, f2, f3, f4, f5⟩ := IC.fpOk (Nat.le_refl _) nC
      exact ⟨m, hn, fun h'' sb => ⟨.ref D, H5, IG.turned (t' := s6.toks) (fun b o hb e => (sb.2 b hb).trans e) f0 f1 f3 f4 f5, rfl, qq⟩⟩
    · refine thnF (T.item (X.blk sC HC sc ce fp) rfl rfl rfl calm i [] s5 _ H5 (fun _ _ => False) I5 (stat I5 n5) st5 go) fun r s6 ⟨u, hr, h6⟩ => ?_
      subst hr
      refine thnF h6 fun _ s7 ⟨x, H7, I7, r7, y7, st7, n7⟩ => ?_
      have I7' := I7.pinned (stat I7 n7) (T.obj _ _ st7)
      refine thnF (pg.run _ s7 _ H7 x u _ I7' r7 (step x H7 y7)) fun _ s8 ⟨σ8, H8, I8, hw8, q8⟩ => ?_
      have fin : ∀ {σ9 : L2.St} {s' : Shared} {H' : Hp}, Inv (X.blk sC HC sc ce fp) ([] ++ pinsAt fp s7.heap) σ9 H' s' → (wipe σ (own.map (·.2))).length = σ9.length → (∀ (j : Nat) v, (wipe σ (own.map (·.2)))[j]? = some (some v) → σ9[j]? = some (some v)) → Nx H' →
          ∃ m, m < n ∧ ∃ i H', Inv (X.blk sC HC sc ce fp) [] (wipe σ (own.map (·.2))) H' s' ∧ tn i s'.heap ∧ (∀ b ∈ fp, H' b = none) ∧ W i m H' := fun {σ9 s' H'} I' hl hk nx => by
        obtain ⟨m', hm, w'⟩ := hNx H' nx
        have pin' : ∀ b ∈ fp, ∀ o, s7.heap.get? b = some o → s'.heap.get? b = some o ∧ H' b = none := fun b hb o e =>
          let z := I'.pin (b, o) (List.mem_append_right _ (List.mem_append_right _ (mem_pinsAt hb e)))
          ⟨z.1, z.2.1⟩
        refine ⟨m', hm, i + 1, H', (I'.unpinned (pins := [])).weak hl hk, T.keep _ _ _ st7 fun b hb o e => (pin' b hb o e).1, fun b hb => ?_, w'⟩
        obtain ⟨o, e, _⟩ := T.obj _ _ st7 b hb
        exact (pin' b hb o e).2
      have hl8 : (wipe σ (own.map (·.2))).length = σ8.length := by rw [← hw8, wipe_length]
      have hk9 : ∀ (j : Nat) v, (wipe σ (own.map (·.2)))[j]? = some (some v) → (wipe σ8 vs1)[j]? = some (some v) := fun j v e => by
        rw [← hw8] at e
        obtain ⟨e1, e2⟩ := wipe_some e
        rw [wipe_out fun z => e2 (hv j z)]
        exact e1
      refine thnF (pi1.run _ s8 σ8 H8 _ I8 q8) fun xv s10 hx => thnF hx fun itv s11 h11 => ?_
      obtain ⟨it1, fp1, tn1, J1, H11, e1, I11, T1, st11, f11, W1, ⟨m1, w1⟩, turn1⟩ := h11
      subst e1
      have stat1 : ∀ {H' : Hp}, (∀ b ∈ fp1, H' b = none) → ∀ b ∈ fp1, FpOk (X.blk sC HC sc ce fp) ([] ++ pinsAt fp s7.heap) H' b := fun hn b hb => ⟨hn b hb, (f11 b hb).2⟩
      have loop1 : codeAny (model X.prog X.w) X.A (.compLoop (SC2 elt t0 i0 t1 i1 sc pos) 1 (.ref it1) (.ref D) ce)
          (fun r s' => match r with
            | .ok _ => ∃ m, m < n ∧ ∃ i H', Inv (X.blk sC HC sc ce fp) [] (wipe σ (own.map (·.2))) H' s' ∧ tn i s'.heap ∧ (∀ b ∈ fp, H' b = none) ∧ W i m H'
            | .error _ => False) s11 := by
        refine loop_in (fun k s' => ∃ j H', Inv (X.blk sC HC sc ce fp) ([] ++ pinsAt fp s7.heap) (wipe σ8 vs1) H' s' ∧ tn1 j s'.heap ∧ (∀ b ∈ fp1, H' b = none) ∧ W1 j k H') ?_ m1 ⟨0, H11, I11.weak (wipe_length _ _) (fun j v e => (wipe_some e).1), st11, fun b hb => (f11 b hb).1, w1⟩
        rintro k s12 ⟨j, H12, I12, st12, n12, w12⟩
        rcases turn1 j k H12 w12 with ⟨stop1, nx1⟩ | ⟨go1, Nx1, hNx1, step1⟩
        · refine thnF (T1.done (X.blk sC HC sc ce fp) rfl rfl rfl calm j _ s12 (wipe σ8 vs1) H12 (fun _ _ => False) I12 (stat1 n12) st12 stop1) fun r s13 ⟨hr, I13⟩ => ?_
          subst hr
          exact fin I13 (hl8.trans (wipe_length σ8 vs1).symm) hk9 nx1
        · refine thnF (T1.item (X.blk sC HC sc ce fp) rfl rfl rfl calm j _ s12 (wipe σ8 vs1) H12 (fun _ _ => False) I12 (stat1 n12) st12 go1) fun r s13 ⟨u1, hr, h13⟩ => ?_
          subst hr
          refine thnF h13 fun _ s14 ⟨x1, H14, I14, r14, y14, st14, n14⟩ => ?_
          have I14' := I14.pinned (stat1 n14) (T1.obj _ _ st14)
          refine thnF (pg1.run _ s14 (wipe σ8 vs1) H14 x1 u1 _ I14' r14 (step1 x1 H14 y14)) fun _ s15 ⟨σ15, H15, I15, hw15, q15⟩ => ?_
          have fin1 : ∀ {s' : Shared} {H' : Hp}, Inv (X.blk sC HC sc ce fp) (([] ++ pinsAt fp s7.heap) ++ pinsAt fp1 s14.heap) σ15 H' s' → Nx1 H' → ∃ m, m < k ∧ ∃ j H', Inv (X.blk sC HC sc ce fp) ([] ++ pinsAt fp s7.heap) (wipe σ8 vs1) H' s' ∧ tn1 j s'.heap ∧ (∀ b ∈ fp1, H' b = none) ∧ W1 j m H' := fun {s' H'} I' nx => by
            obtain ⟨m', hm, w'⟩ := hNx1 H' nx
            have pin' : ∀ b ∈ fp1, ∀ o, s14.heap.get? b = some o → s'.heap.get? b = some o ∧ H' b = none := fun b hb o e =>
              let z := I'.pin (b, o) (List.mem_append_right _ (List.mem_append_right _ (mem_pinsAt hb e)))
              ⟨z.1, z.2.1⟩
            refine ⟨m', hm, j + 1, H', I'.unpinned.weak (by rw [← hw15, wipe_length]) (fun j v e => by rw [← hw15] at e; exact (wipe_some e).1), T1.keep _ _ _ st14 fun b hb o e => (pin' b hb o e).1, fun b hb => ?_, w'⟩
            obtain ⟨o, e, _⟩ := T1.obj _ _ st14 b hb
            exact (pin' b hb o e).2
          refine thnF (pe.run _ s15 σ15 H15 _ I15 q15) fun z s17 ⟨yv, H17, I17, r17, ck, cl, ey, hD17, hz17, nx⟩ => ?_
          subst ey
          obtain ⟨tk, rfl⟩ := r17
          exact addT_ok (X := X.blk sC HC sc ce fp) I17 hD17 hz17 fun s18 I18 => fin1 I18 nx
      exact start_in loop1 (T1.self X.A 0 _ _ _ st11 loop1)
  exact PpSet.codeAny_compStart_set loop (T.self X.A 0 _ _ _ stE loop)
end
end TS2

set_option Elab.async false
set_option maxRecDepth 100000
set_option maxHeartbeats 4000000
set_option linter.all false
/-! sorted of a set of texts -/
namespace TS2
open PySem PySem.Spec PyProof.Rows L2 PySem.Froz
section
variable {P : PySem.Program} {w : World} {A : Around} {E : Value → Shared → Prop} {s : Shared} {a : Addr} {l : List Str}
theorem strs_out : ∀ (vs : List Value), (∀ v ∈ vs, ∃ k u, v = Value.str k u) → StrsAre vs (vs.map fun v => wordAt (0, v))
  | [], _ => .nil
  | v :: vs, h => by
    obtain ⟨k, u, rfl⟩ := h v List.mem_cons_self
    exact .cons k u (strs_out vs fun x hx => h x (List.mem_cons_of_mem _ hx))
theorem tx_sorted {Q : Value → Shared → Prop} (R : TxSet P w s.heap a l) (hh : A.handled = none) (hn : l.length < scanBound)
    (hQ : ∀ s' p (out : Array Value) (c : Nat) (ys : List Str), (∀ b o, s.heap.get? b = some o → s'.heap.get? b = some o) → s'.gens = s.gens → s'.os = s.os → s.heap.objs.size ≤ p →
      s'.heap.get? p = some (seqObj "list" out c) → StrsAre out.toList ys → ys.Perm l → sortedS ys = true → Q (.ref p) s') :
    wpAny (model P w) A (call (.builtin "sorted") [.ref a]) Q E s := by
  obtain ⟨⟨es, ep, t⟩, ho, G⟩ := R
  have hsz : es.size = l.length := G.ok.sz
  have hb : es.size < scanBound := by rw [hsz]; exact hn
  refine Calls.call_function_entry kind_sorted plain_sorted entry_sorted (args_sorted1 _) ?_
  unfold Builtin.«sorted»
  refine wpAny_bind (m := checkCount "sorted" 1 1 _) (wpAny_pure ?_)
  refine wpAny_bind (collect_set (A := A.in1) hh (⟨_, ho, rfl, rfl⟩ : SetAt s.heap a es ep t) G.ok.fit hb G.ris G.led fun s1 vs k1 hz g1 o1 pm => ?_)
  have hvl : vs.length = l.length := by rw [pm.length_eq, List.length_map, Array.length_toList]; exact hsz
  have hS : StrsAre vs (vs.map fun v => wordAt (0, v)) := strs_out vs fun v hv => by
    obtain ⟨e, he, q⟩ := List.mem_map.mp (pm.mem_iff.mp hv)
    obtain ⟨k, u, h1⟩ := G.txt e he
    exact ⟨k, u, by rw [← q]; exact h1⟩
  have pk : (vs.map fun v => wordAt (0, v)).Perm l := by
    have q := pm.map fun v => wordAt (0, v)
    rw [List.map_map] at q
    exact q.trans G.keys
  have fits : vs.length ≤ sizeLine := by rw [hvl]; exact fits_of_scanBound hn
  refine wpAny_bind (wpAny_newList ?_ fits)
  have hoL : (s1.heap.push (seqObj "list" vs.toArray 0)).get? s1.heap.objs.size = some (seqObj "list" vs.toArray 0) := Heap.get?_push_size _ rfl
  refine wpAny_bind (wpAny_holding (wpAny_call_entry slot_list_sort ⟨_, hoL, rfl⟩ entry_list_sort
    (list_sort_treeKAny strKind_oneLt (s := { s1 with heap := s1.heap.push (seqObj "list" vs.toArray 0) }) hoL hS.keysOf (fun v₁ v₂ rest e => keyKind_strs (by rw [← e]; exact hS)) fits fun st' hp hs => ⟨_, rfl, ?_⟩) (args_list_sort _)))
  obtain ⟨ys, e1, e2, e3⟩ := sorted_out_str hS hp hs
  obtain ⟨c, hc⟩ := sortedHeap_at (vs := vs) (out := (arrOf st').map (·.2)) hoL
  refine wpAny_pure ⟨_, rfl, hQ _ s1.heap.objs.size _ c ys (fun b u e => ?_) g1 o1 hz hc e1 (e2.trans pk) e3⟩
  have q := k1 b u e
  have hlt := Heap.lt_size q
  show (sortedHeap (s1.heap.push (seqObj "list" vs.toArray 0)) s1.heap.objs.size vs _).get? b = some u
  rw [sortedHeap_old (Nat.ne_of_lt hlt) (by rw [size_push']; exact Nat.lt_succ_of_lt hlt)]
  exact Heap.get?_push_of_some _ q
end
section
variable {X : Cx}
def rSortedTx (P : PySem.Program) (w : World) : List V → Hp → VK → Prop := fun vs H Q => ∃ (a : Addr) (l : List Str), vs = [V.ref a] ∧ H a = some (TxO P w a l) ∧ l.length < scanBound ∧
  ∀ (ys : List Str) (p : Addr), ys.Perm l → sortedS ys = true → H p = none → Q (.ref p) (upd H p (.lst (ys.map V.str)))
theorem cr_sortedTx (hc : X.calm = true) : CallR X (.builtin "sorted") (rSortedTx X.prog X.w) := by
  intro pins s σ H vs us Q I r h
  obtain ⟨a, l, rfl, ha, hn, q⟩ := h
  rw [Vals.ref1 r]
  refine tx_sorted (txO_get I ha) (I.ok.hd hc) hn fun s' p out c ys k g o hp hg hS pm hs => ?_
  have hlen : (ys.map V.str).length ≤ sizeLine := by rw [List.length_map, pm.length_eq]; exact fits_of_scanBound hn
  have hf : H p = none := I.hok.fresh hp
  have J : Inv X pins σ (upd H p (.lst (ys.map V.str))) { s with heap := s'.heap, gens := s'.gens, drawn := s'.drawn, toks := s'.toks } :=
    I.call (ch := []) (Un.laid k hp hf) (I.hok.laid k hp ⟨hlen, out.toList, c, vals_of_strs hS, hg⟩) (by rw [g]; exact I.bare) (fun _ z => nomatch z)
  have e : s' = { s with heap := s'.heap, gens := s'.gens, drawn := s'.drawn, toks := s'.toks } := by
    cases s'
    cases s
    cases o
    rfl
  rw [e]
  exact ⟨.ref p, _, J, rfl, q ys p pm hs hf⟩
end
end TS2

set_option Elab.async false
set_option maxRecDepth 100000
set_option maxHeartbeats 4000000
set_option linter.all false
/-! {path: v for .. in ..}: keys that are tuples of ints and texts -/
namespace TS2
open PySem PySem.Spec PyProof.Rows L2
section
variable {X : Cx}
theorem dT_set {pins : List (Addr × Obj)} {σ : L2.St} {H : Hp} {s : Shared} {E : Value → Shared → Prop} {D b : Addr} {kvs : List (List Key × V)} {k : List Key} {v : V} {r : Value} {Q : Unit → Shared → Prop} (hu : X.A.units + 1 < cLine) (I : Inv X pins σ H s) (hD : H D = some (.dT kvs)) (hz : kvs.length < sizeLine)
    (hb : H b = some (.tup (k.map kV))) (rv : RelV v r) (h : ∀ s', Inv X pins σ (upd H D (.dT (putK kvs k v))) s' → Q () s') : wpAny (model X.prog X.w) X.A (dictSet D (.ref b) r) Q E s := by
  obtain ⟨z, hd, xs, rel, dd⟩ := dt_of I.hok hD
  have hz' : xs.length ≤ sizeLine := by rw [← Paired.length rel]; exact z
  have hl : (putK kvs k v).length ≤ sizeLine := by have := length_putK kvs k v; omega
  refine wpAny_dictSet_heap (hsz := hz') (show X.A.units < cLine by omega) (key_of I.hok hb) dd fun h' dd' hs => h _ ?_
  obtain ⟨q, es, ep, hq, h2, h3, h4, _, h5⟩ := dd'
  refine d_write I (by rw [hD]; exact True.intro) hs ⟨q, hq⟩ ⟨hl, hd, _, (rel.put k hb rv).keeps fun c ys ec => ?_, q, es, ep, hq, h2, h3, h4, h5⟩
  rw [upd_ne (ne_of ec hD (fun z => nomatch z))]
  exact ec
def tDcT (wi : TI) (g : TG) (tk tv : TE) (vs : List Nat) : TE := fun σ H Q => wi σ H fun J H1 => ∀ D, H1 D = none → ∃ W : Nat → Nat → Hp → Prop, (∃ m, W 0 m (upd H1 D (.dT []))) ∧ ∀ i m H, W i m H →
  (J.stop i H ∧ Q (.ref D) H) ∨ (J.go i H ∧ ∃ Nx : Hp → Prop, (∀ H', Nx H' → ∃ m', m' < m ∧ W (i + 1) m' H') ∧ ∀ x H', J.yld i H x H' → g x (wipe σ vs) H' fun σ2 H2 => wipe σ2 vs = wipe σ vs ∧
    tk σ2 H2 fun y H4 => tv σ2 H4 fun z H5 => ∃ kvs k b, y = .ref b ∧ H5 b = some (.tup (k.map kV)) ∧ H5 D = some (.dT kvs) ∧ kvs.length < sizeLine ∧ Nx (upd H5 D (.dT (putK kvs k z))))
theorem pe_dcT {kx vx tg iter : Expr} {sc : Scope} {own : List (Str × Nat)} {pos : Pos} {wi : TI} {g : TG} {tk tv : TE} (hu : X.A.units + 1 < cLine) (calm : X.calm = true) (nd : X.N.Nodup) (hi : PI X tg iter wi) (ok : BlkOk X.N X.env.scope sc own)
    (hg : ∀ (s : Shared) (H : Hp) (C : Addr) (cl : List (Str × Addr)) (fp : List Addr), PG (X.blk s H sc (compEnvC sc cl C X.env) fp) tg g)
    (hk : ∀ (s : Shared) (H : Hp) (C : Addr) (cl : List (Str × Addr)) (fp : List Addr), PE (X.blk s H sc (compEnvC sc cl C X.env) fp) kx tk)
    (he : ∀ (s : Shared) (H : Hp) (C : Addr) (cl : List (Str × Addr)) (fp : List Addr), PE (X.blk s H sc (compEnvC sc cl C X.env) fp) vx tv) (hs : ∀ x, foldedSetIterable iter X.env x = pure x := by intro _; rfl) :
    PE X (.DictComp kx vx [⟨tg, iter, [], 0⟩] sc pos) (tDcT wi g tk tv (own.map (·.2))) := by
  refine ⟨fun pins s σ H Q I h => ?_⟩
  rw [arm_eval_DictComp]
  have frees : ∀ y ∈ sc.names, y.2 = .free → ∃ c, X.env.cells.lookup y.1 = some c := fun y hy e =>
    (ok.free y hy e).elim (fun z => I.ok.has _ (.inl z)) fun z => I.ok.has _ (.inr z)
  refine wpAny_comprehension_free (use := none) rfl hs (closure_ok frees) ok.kind (fun y hy e => by rw [ok.uniq y hy, e]) (thn (hi.run pins s σ H _ I h) fun xv sA hx => thn hx fun itv sB hB => ?_)
  obtain ⟨it, fp, tn, J, HB, rfl, IB, T, stB, fB, q⟩ := hB
  refine wpAny_newObj_type (newEnv_comp ?_)
  obtain ⟨W, ⟨m0, w0⟩, turn⟩ := q sB.heap.objs.size (IB.hok.fresh (Nat.le_refl _))
  generalize eD : sB.heap.objs.size = D at w0 turn
  generalize eC : ({ sB with heap := sB.heap.push { cls := .type "dict", data := .dict #[] } } : Shared) = sC
  have hC : sC.heap = sB.heap.push { cls := .type "dict", data := .dict #[] } := by rw [← eC]
  generalize eH : upd HB D (.dT []) = HC at w0
  have IC : Inv X pins σ HC sC := by
    rw [← eC, ← eH]
    refine IB.laid (t' := sB.toks) (fun b o e => Heap.get?_push_of_some _ e) (Nat.le_of_eq eD) ?_
    rw [← eD]
    exact dt_empty sB.heap IB.big
  have young : ∀ b ∈ fp, b < sB.heap.objs.size := fun b hb => (T.obj _ _ stB b hb).elim fun o e => Heap.lt_size e.1
  have fC : ∀ b ∈ fp, FpOk X pins HC b ∧ b < sC.heap.objs.size := fun b hb => by
    have lt := young b hb
    have nb : HC b = none := by
      rw [← eH, upd_ne (by rw [← eD]; exact Nat.ne_of_lt lt)]
      exact (fB b hb).1
    exact ⟨⟨nb, (fB b hb).2⟩, by rw [hC, Heap.size_push]; exact Nat.lt_succ_of_lt lt⟩
  have stC : tn 0 sC.heap := T.keep _ _ _ stB fun b _ o e => by rw [hC]; exact Heap.get?_push_of_some _ e
  have IE := block_start IC ok nd fC
  have pg := hg sC HC sC.heap.objs.size (cellsFrom (sC.heap.objs.size + 1) sc.names (cloFrom X.env.cells sc.names [])) fp
  have pk := hk sC HC sC.heap.objs.size (cellsFrom (sC.heap.objs.size + 1) sc.names (cloFrom X.env.cells sc.names [])) fp
  have pe := he sC HC sC.heap.objs.size (cellsFrom (sC.heap.objs.size + 1) sc.names (cloFrom X.env.cells sc.names [])) fp
  show codeAny _ _ (.compStart (.DictComp kx vx [⟨tg, iter, [], 0⟩] sc pos) 0 (.ref it) (.ref D) (compEnvC sc (cellsFrom (sC.heap.objs.size + 1) sc.names (cloFrom X.env.cells sc.names [])) sC.heap.objs.size X.env)) (compPost (model X.prog X.w) X.A X.xe none (EP X pins σ Q) (.ref D) sC.heap.objs.size) { sC with heap := pushCells (sC.heap.push { cls := .type "dict", data := .dict #[] }) sc.names }
  generalize eN : compEnvC sc (cellsFrom (sC.heap.objs.size + 1) sc.names (cloFrom X.env.cells sc.names [])) sC.heap.objs.size X.env = ce at IE pg pk pe ⊢
  have eL : ce.locals = sC.heap.objs.size := by rw [← eN]; rfl
  generalize eE : ({ sC with heap := pushCells (sC.heap.push { cls := .type "dict", data := .dict #[] }) sc.names } : Shared) = sE at IE ⊢
  have stE : tn 0 sE.heap := T.keep _ _ _ stC fun b _ o e => by rw [← eE]; exact pushCells_keeps _ _ _ _ (Heap.get?_push_of_some _ e)
  have nfp : ∀ b ∈ fp, HC b = none := fun b hb => (fC b hb).1.1
  have stat : ∀ {σ' : L2.St} {H' : Hp} {s' : Shared}, Inv (X.blk sC HC sc ce fp) [] σ' H' s' → (∀ b ∈ fp, H' b = none) → ∀ b ∈ fp, FpOk (X.blk sC HC sc ce fp) [] H' b := fun {σ' H' s'} I' hn b hb =>
    ⟨hn b hb, (I'.ok.exf b hb).1, I'.ok.exfs b hb, .inl hb, fun x c e => (I'.ok.exf b hb).2 x c e, fun p hp => by simp at hp⟩
  have loop : codeAny (model X.prog X.w) X.A (.compLoop (.DictComp kx vx [⟨tg, iter, [], 0⟩] sc pos) 0 (.ref it) (.ref D) ce) (compPost (model X.prog X.w) X.A X.xe none (EP X pins σ Q) (.ref D) sC.heap.objs.size) sE := by
    refine compLoop_anyD (fun n s' => ∃ i H', Inv (X.blk sC HC sc ce fp) [] (wipe σ (own.map (·.2))) H' s' ∧ tn i s'.heap ∧ (∀ b ∈ fp, H' b = none) ∧ W i n H') ?_ m0 ⟨0, HC, IE, stE, nfp, w0⟩
    rintro n s5 ⟨i, H5, I5, st5, n5, w5⟩
    rcases turn i n H5 w5 with ⟨stop, qq⟩ | ⟨go, Nx, hNx, step⟩
    · refine thnF (T.done (X.blk sC HC sc ce fp) rfl rfl rfl calm i [] s5 _ H5 (fun _ _ => False) I5 (stat I5 n5) st5 stop) fun r s6 ⟨hr, I6⟩ => ?_
      subst hr
      have IG : Inv X pins σ H5 s6 := IC.call' (ch := fp) I6.os I6.base I6.hok I6.bare fun b hb => ⟨(fC b hb).1.2.2.2.1, (fC b hb).1.2.1, (fC b hb).1.2.2.2.2.1, (fC b hb).1.2.2.2.2.2⟩
      have nC : H5 sC.heap.objs.size = none := by
        have z : H5 ce.locals = none := I6.free
        rwa [eL] at z
      obtain ⟨m, hn, _⟩ := I6.loc
      have hn : s6.heap.Ns ce.locals m := hn
      rw [eL] at hn
      obtain ⟨f0, f1, f2, f3, f4, f5⟩ := IC.fpOk (Nat.le_refl _) nC
      exact ⟨m, hn, fun h'' sb => ⟨.ref D, H5, IG.turned (t' := s6.toks) (fun b o hb e => (sb.2 b hb).trans e) f0 f1 f3 f4 f5, rfl, qq⟩⟩
    · refine thnF (T.item (X.blk sC HC sc ce fp) rfl rfl rfl calm i [] s5 _ H5 (fun _ _ => False) I5 (stat I5 n5) st5 go) fun r s6 ⟨u, hr, h6⟩ => ?_
      subst hr
      refine thnF h6 fun _ s7 ⟨x, H7, I7, r7, y7, st7, n7⟩ => ?_
      have I7' := I7.pinned (stat I7 n7) (T.obj _ _ st7)
      refine thnF (pg.run _ s7 _ H7 x u _ I7' r7 (step x H7 y7)) fun _ s8 ⟨σ8, H8, I8, hw8, q8⟩ => ?_
      have fin : ∀ {s' : Shared} {H' : Hp}, Inv (X.blk sC HC sc ce fp) ([] ++ pinsAt fp s7.heap) σ8 H' s' → Nx H' → ∃ m, m < n ∧ ∃ i H', Inv (X.blk sC HC sc ce fp) [] (wipe σ (own.map (·.2))) H' s' ∧ tn i s'.heap ∧ (∀ b ∈ fp, H' b = none) ∧ W i m H' := fun {s' H'} I' nx => by
        obtain ⟨m', hm, w'⟩ := hNx H' nx
        have pin' : ∀ b ∈ fp, ∀ o, s7.heap.get? b = some o → s'.heap.get? b = some o ∧ H' b = none := fun b hb o e =>
          let z := I'.pin (b, o) (List.mem_append_right _ (List.mem_append_right _ (mem_pinsAt hb e)))
          ⟨z.1, z.2.1⟩
        refine ⟨m', hm, i + 1, H', (I'.unpinned (pins := [])).weak (by rw [← hw8, wipe_length]) (fun j v e => by rw [← hw8] at e; exact (wipe_some e).1), T.keep _ _ _ st7 fun b hb o e => (pin' b hb o e).1, fun b hb => ?_, w'⟩
        obtain ⟨o, e, _⟩ := T.obj _ _ st7 b hb
        exact (pin' b hb o e).2
      refine wpAny_pure ?_
      show wpAny _ _ _ _ _ _
      refine thnF (pk.run _ s8 σ8 H8 _ I8 q8) fun z s10 ⟨yk, H10, I10, r10, q10⟩ => ?_
      refine thnF (pe.run _ s10 σ8 H10 _ I10 q10) fun z2 s11 ⟨yv, H11, I11, r11, kvs, k, b, ek, hb, hD11, hz11, nx⟩ => ?_
      subst ek
      cases r10
      exact dT_set (X := X.blk sC HC sc ce fp) hu I11 hD11 hz11 hb r11 fun s12 I12 => fin I12 nx
  exact codeAny_compStart_dict loop (T.self X.A 0 _ _ _ stE loop)
end
end TS2

set_option Elab.async false
set_option maxRecDepth 100000
set_option maxHeartbeats 4000000
set_option linter.all false
/-! xs.extend(t), t a tuple -/
namespace TS2
open PySem PySem.Spec PyProof.Rows L2
section
variable {X : Cx}
def rExtT (K : PySem.W.Frag) : V → List V → Hp → VK → Prop := fun x vs H Q => ∃ l b xs zs, x = .ref l ∧ vs = [.ref b] ∧ H l = some (.lst xs) ∧ SqT K H b zs ∧ xs.length + zs.length ≤ sizeLine ∧ Q .non (upd H l (.lst (xs ++ zs)))
theorem mt_extendT : MtM X "list.extend" (rExtT X.K) := by
  intro pins s σ H x vs v us Q I rx rv h
  obtain ⟨l, b, xs, zs, rfl, rfl, hH, hB, hz, q⟩ := h
  cases rx
  obtain ⟨u, rfl, ru⟩ := rv.one
  cases ru
  obtain ⟨z, its, n, r, hl, e⟩ := I.lstM hH
  obtain ⟨its2, r2, ⟨o2, e2, hc2, n2, hd2⟩, hl2⟩ := I.tuple hB
  have lz : its2.length = zs.length := r2.length.symm
  have lx : its.length = xs.length := r.length.symm
  have hlong : ¬ (!its.toArray.isEmpty && Builtin.List.listTooLong (its.toArray.size + its2.toArray.size)) = true := by
    rw [notLongL (by rw [List.size_toArray, List.size_toArray]; omega), Bool.and_false]
    exact Bool.false_ne_true
  refine wpAny_call_entry F.slot_list_extend ⟨_, e, rfl⟩ F.entry_list_extend ?_ (F.args_list_extend_2 _ _)
  show wpAny _ _ (Builtin.List.listExtendWith (.ref l) (.ref b) .none) _ _ _
  unfold Builtin.List.listExtendWith
  refine wpAny_bind (wpAny_typeOf ⟨o2, e2, hc2⟩ ?_)
  have h1 : (Builtin.List.listSameRef (.ref l) (.ref b) || Value.type "tuple" == Value.type "list" || Value.type "tuple" == Value.type "tuple") = true := by simp
  simp only [h1, if_true]
  refine wpAny_bind ?_
  unfold Builtin.List.listItems
  refine wpAny_bind (wpAny_seqItems e2 hd2 (wpAny_pure ?_))
  refine wpAny_bind ?_
  refine wpAny_bind (wpAny_seqItems e rfl (wpAny_pure ?_))
  rw [if_neg hlong]
  show wpAny _ _ (updateSeq l (· ++ its2.toArray) >>= fun _ => ret Value.none) _ _ s
  have e3 := Heap.get?_update_self (Obj.mapSeq (· ++ its2.toArray)) e rfl
  refine wpAny_bind (wpAny_updateSeq e rfl ?_ (hz := by rw [List.size_toArray]; omega) (_hz' := by rw [Array.size_append, List.size_toArray, List.size_toArray]; omega))
  refine wpAny_pure ?_
  refine ⟨_, rfl, .non, _, I.lset (its' := its ++ its2) hH e (by simp) (r.append r2) (by rw [List.length_append]; omega), rfl, q⟩
end
end TS2

set_option Elab.async false
set_option maxRecDepth 100000
set_option maxHeartbeats 4000000
set_option linter.all false
/-! len(set(t)), t a tuple of texts of any number -/
namespace TS2
open PySem PySem.Spec PyProof.Rows L2
/-- the texts of ws, each once -/
def uniq (ws : List Str) : List Str := ws.foldl put []
theorem uniq_snoc (ws : List Str) (k : Str) : uniq (ws ++ [k]) = put (uniq ws) k := by unfold uniq; rw [List.foldl_append]; rfl
theorem mem_put {l : List Str} {k x : Str} : x ∈ put l k ↔ x ∈ l ∨ x = k := by
  unfold put
  split
  · rename_i h
    exact ⟨.inl, fun z => z.elim id fun e => e ▸ h⟩
  · rw [List.mem_cons]
    exact Or.comm
theorem put_nodup {l : List Str} {k : Str} (h : l.Nodup) : (put l k).Nodup := by
  unfold put
  split
  · exact h
  · rename_i n
    exact List.nodup_cons.mpr ⟨n, h⟩
theorem foldl_put_mem {x : Str} : ∀ (ws l : List Str), x ∈ ws.foldl put l ↔ x ∈ l ∨ x ∈ ws
  | [], l => by simp
  | k :: ws, l => by
    rw [List.foldl_cons, foldl_put_mem ws, mem_put, List.mem_cons, or_assoc]
theorem mem_uniq {ws : List Str} {x : Str} : x ∈ uniq ws ↔ x ∈ ws := by
  unfold uniq
  rw [foldl_put_mem]
  simp
theorem foldl_put_nodup : ∀ (ws l : List Str), l.Nodup → (ws.foldl put l).Nodup
  | [], _, h => h
  | k :: ws, l, h => foldl_put_nodup ws _ (put_nodup h)
theorem uniq_nodup (ws : List Str) : (uniq ws).Nodup := foldl_put_nodup ws [] List.nodup_nil
theorem foldl_put_len : ∀ (ws l : List Str), (ws.foldl put l).length ≤ l.length + ws.length
  | [], _ => Nat.le_refl _
  | k :: ws, l => by
    have h := foldl_put_len ws (put l k)
    have := put_len l k
    rw [List.foldl_cons, List.length_cons]
    omega
theorem uniq_le (ws : List Str) : (uniq ws).length ≤ ws.length := by have := foldl_put_len ws []; simpa [uniq] using this
theorem foldl_put_of : ∀ (ws l : List Str), ws.Nodup → (∀ x ∈ ws, x ∉ l) → (ws.foldl put l).length = l.length + ws.length
  | [], _, _, _ => rfl
  | k :: ws, l, h, d => by
    obtain ⟨h1, h2⟩ := List.nodup_cons.mp h
    have e : put l k = k :: l := by unfold put; rw [if_neg (d k List.mem_cons_self)]
    rw [List.foldl_cons, e, foldl_put_of ws _ h2 fun x hx z => ?_]
    · simp; omega
    · rcases List.mem_cons.mp z with q | q
      · exact h1 (q ▸ hx)
      · exact d x (List.mem_cons_of_mem _ hx) q
theorem uniq_all {ws : List Str} (h : ws.Nodup) : (uniq ws).length = ws.length := by
  have := foldl_put_of ws [] h (by simp)
  simpa [uniq] using this
theorem foldl_put_nd : ∀ (ws l : List Str), (ws.foldl put l).length = l.length + ws.length → ws.Nodup ∧ ∀ x ∈ ws, x ∉ l
  | [], _, _ => ⟨List.nodup_nil, fun x h => by simp at h⟩
  | k :: ws, l, h => by
    have h1 := foldl_put_len ws (put l k)
    have h2 := put_len l k
    rw [List.foldl_cons, List.length_cons] at h
    have hk : k ∉ l := fun z => by
      have e : put l k = l := by unfold put; rw [if_pos z]
      rw [e] at h h1
      omega
    have e : put l k = k :: l := by unfold put; rw [if_neg hk]
    rw [e] at h
    obtain ⟨n1, n2⟩ := foldl_put_nd ws (k :: l) (by rw [h, List.length_cons]; omega)
    refine ⟨List.nodup_cons.mpr ⟨fun z => n2 k z List.mem_cons_self, n1⟩, fun x hx z => ?_⟩
    rcases List.mem_cons.mp hx with q | q
    · exact hk (q ▸ z)
    · exact n2 x q (List.mem_cons_of_mem _ z)
/-- as many as there are, exactly if none stands twice -/
theorem uniq_len {ws : List Str} : (uniq ws).length = ws.length ↔ ws.Nodup :=
  ⟨fun e => (foldl_put_nd ws [] (by unfold uniq at e; rw [e]; simp)).1, uniq_all⟩
section
variable {P : PySem.Program} {w : World} {A : Around} {R : Result → Shared → Prop} {I : Addr} {fp wr : List Addr} {G : Array GenState → Array GenState → Prop} {n : Nat} {Pv : Nat → Value → Prop} {St : Nat → Shared → Prop}
abbrev HoldsU (P : PySem.Program) (w : World) (h : Heap) (S : Addr) (ws : List Str) : Prop := h.SetOf (PySem.strKind P w) S (fun k => decide (k ∈ uniq ws)) (uniq ws).length
theorem holdsU_more {h : Heap} {S : Addr} {ws : List Str} {k : Str} (e : h.SetOf (PySem.strKind P w) S (fun j => decide (j ∈ uniq ws) || decide (j = k)) (if decide (k ∈ uniq ws) = true then (uniq ws).length else (uniq ws).length + 1)) :
    HoldsU P w h S (ws ++ [k]) := by
  refine SetOf_congr e (fun j => ?_) ?_
  · rw [uniq_snoc]
    by_cases a : j ∈ uniq ws <;> by_cases b : j = k <;> simp [mem_put, a, b]
  · rw [uniq_snoc]
    by_cases a : k ∈ uniq ws <;> simp [put, a]
theorem loopU (W : WalksS P w A.in1 I fp wr G n Pv St) (S : Addr) (hSf : S ∉ fp) (xs : List Str) (hsz : xs.length = n) (hn : n + 1 < scanBound) (hval : ∀ i v, Pv i v → ∃ x t, xs[i]? = some x ∧ v = .str x t) :
    ∀ (k i : Nat) (s : Shared), n - i = k → i ≤ n → St i s → HoldsU P w s.heap S (xs.take i) →
      (∀ s', Moved (S :: wr) G s s' → HoldsU P w s'.heap S xs → R (.ok (.ret .none)) s') → codeAny (model P w) A (.builtin "set.update.loop" ⟨[.ref S, .ref I], []⟩) R s := by
  have hSw : S ∉ wr := fun h => hSf (W.sub _ h)
  have hsub : ∀ b ∈ wr, b ∈ S :: wr := fun b hb => List.mem_cons_of_mem _ hb
  intro k
  induction k with
  | zero =>
    intro i s hk hi hst hS hR
    have hin : i = n := by omega
    subst hin
    rw [← hsz, List.take_length] at hS
    refine codeAny_builtin PyProof.Rows.F.entry_set_update_loop ?_
    rw [Around.under_plainId PyProof.Rows.F.plain_set_update_loop _]
    show wpAny _ A.in1 (pyNext (.ref I) >>= _) _ _ s
    refine wpAny_bind (W.done s _ _ hst fun s' hm => ?_)
    show wpAny _ A.in1 (ret Value.none) _ _ s'
    obtain ⟨o, es, ep, t, ho, more⟩ := hS
    exact wpAny_pure (hR s' (hm.mono hsub) ⟨o, es, ep, t, hm.heap S _ hSw ho, more⟩)
  | succ k ih =>
    intro i s hk hi hst hS hR
    have hlt : i < n := by omega
    refine codeAny_builtin PyProof.Rows.F.entry_set_update_loop ?_
    rw [Around.under_plainId PyProof.Rows.F.plain_set_update_loop _]
    show wpAny _ A.in1 (pyNext (.ref I) >>= _) _ _ s
    refine wpAny_bind (W.item i s _ _ hlt hst fun v s' hP hst' hm => ?_)
    obtain ⟨x, t, hx, rfl⟩ := hval i v hP
    have hS' : HoldsU P w s'.heap S (xs.take i) := by
      obtain ⟨o, es, ep, tb, ho, more⟩ := hS
      exact ⟨o, es, ep, tb, hm.heap S _ hSw ho, more⟩
    show wpAny _ A.in1 (holding [Value.str x t] (setAdd S (.str x t)) >>= _) _ _ s'
    refine wpAny_bind (wpAny_holding ?_)
    unfold setAdd
    refine wpAny_holding ?_
    refine wpAny_bind ((PySem.strKind P w).pyHash (k := x) (strKind_is _ _ _ _) ?_)
    have room : (uniq (xs.take i)).length + 1 < scanBound := by
      have h1 := uniq_le (xs.take i)
      rw [List.length_take] at h1
      omega
    refine wpAny_setAddHashed_of (knd := PySem.strKind P w) (s := { s' with toks := s'.toks + 1 }) (strKind_is _ _ _ _) rfl hS' room fun h' hsb hS2 => ?_
    have hSi : HoldsU P w h' S (xs.take (i + 1)) := by
      rw [List.take_succ, hx]
      exact holdsU_more hS2
    refine wpAny_pure ⟨plainId_quiet PyProof.Rows.F.plain_set_update_loop _, ih (i + 1) _ (by omega) hlt (W.frame _ s' _ _ hst' (Nat.le_succ _) fun b hb o e => ?_) hSi fun s2 hm2 hS3 => ?_⟩
    · exact (hsb.2 b fun z => hSf (z ▸ hb)).trans e
    · refine hR s2 (Moved.trans W.gtrans ((hm.mono hsub).then_heap (Nat.le_succ _) fun b o hb e => ?_) hm2) hS3
      exact (hsb.2 b fun z => hb (z ▸ List.mem_cons_self)).trans e
end
section
variable {P : PySem.Program} {w : World} {A : Around} {E : Value → Shared → Prop} {s : Shared}
set_option maxHeartbeats 6400000 in
theorem set_of_tuple {l : Addr} {its : Array Value} {xs : List Str} {Q : Value → Shared → Prop} (hh : A.handled = none) (hl : s.heap.IsTuple l its) (hi : StrsAre its.toList xs) (hb : xs.length + 1 < scanBound)
    (h : ∀ (h' : Heap) (tk : Nat), HoldsU P w h' s.heap.objs.size xs → (∀ b o, b < s.heap.objs.size → s.heap.get? b = some o → h'.get? b = some o) → Q (.ref s.heap.objs.size) { s with heap := h', toks := tk }) :
    wpAny (model P w) A (call (.type "set") [.ref l]) Q E s := by
  obtain ⟨c, tl, hmro⟩ := PySem.F.called_set.mro
  have hmade := PySem.F.called_set.made
  have hsub := PySem.F.called_set.sub
  refine wpAny_call (codeAny_of_tree ?_)
  show wpAny _ _ (callAny (.type "set") _) _ _ _
  refine wpAny_pure ⟨Code.quiet_builtin _ (by decide +kernel), codeAny_builtin PySem.F.entry_type_call ?_⟩
  rw [Around.under_plain (weight_type_call_type "set" [.ref l] []) rfl]
  have h1 := PySem.F.called_set.notType
  have h2 := PySem.F.called_set.canCreate
  have hct := PySem.F.typeCall_set_1 (.ref l)
  repeat (any_goals (first | assumption | wp_step))
  refine codeAny_mono (code_set_new_1 (.ref l) (E := E) (Q₁ := fun obj s1 => ∃ led : Bool, obj = .ref s.heap.objs.size ∧ s1 = { s with heap := s.heap.push { cls := .type "set", dict := none, data := .set #[] 0 (.fresh 0 0 led) } }) fun led => ⟨led, rfl, rfl⟩) fun r s1 hr => ?_
  cases r with
  | error e => exact hr
  | ok fl =>
    cases fl with
    | next => exact hr.elim
    | brk => exact hr.elim
    | cont => exact hr.elim
    | ret obj =>
      obtain ⟨led, rfl, rfl⟩ := hr
      have hS : (s.heap.push { cls := .type "set", dict := none, data := .set #[] 0 (.fresh 0 0 led) }).get? s.heap.objs.size = some { cls := .type "set", dict := none, data := .set #[] 0 (.fresh 0 0 led) } := Heap.get?_push_size _ rfl
      have hT : Shared.TypeIs { s with heap := s.heap.push { cls := .type "set", dict := none, data := .set #[] 0 (.fresh 0 0 led) } } (.ref s.heap.objs.size) "set" := ⟨_, hS, rfl⟩
      have hli := PySem.F.called_set.init.lookup
      have hbi := PySem.F.called_set.init.bind (.ref s.heap.objs.size)
      repeat (any_goals (first | assumption | wp_step))
      refine codeAny_mono (codeAny_call_builtin (R := wants (fun r s2 => r = .none ∧ ∃ h' tk, s2 = { s with heap := h', toks := tk } ∧ HoldsU P w h' s.heap.objs.size xs ∧
          (∀ b o, b < s.heap.objs.size → s.heap.get? b = some o → h'.get? b = some o)) E) PySem.F.called_set.init.plain PySem.F.entry_set_init (check_set_init_1 hT ?_)) fun r2 s2 hr2 => ?_
      · obtain ⟨⟨ocls, odict, odata, oslots⟩, hol, hcl, nl, hdl⟩ := hl
        simp only at hcl hdl
        subst hcl; subst hdl
        have hol' : (s.heap.push { cls := .type "set", dict := none, data := .set #[] 0 (.fresh 0 0 led) }).get? l = some { cls := .type "tuple", dict := odict, data := .seq its nl, slots := oslots } := Heap.get?_push_of_some _ hol
        have hsls := PySem.F.sub_tuple_set
        have hslf := PySem.F.sub_tuple_frozenset
        have hne : (Value.type "tuple" == Value.type "dict") = false := by decide
        have hl1 : ({ s with heap := s.heap.push { cls := .type "set", dict := none, data := .set #[] 0 (.fresh 0 0 led) } } : Shared).heap.IsTuple l its := ⟨_, hol', rfl, nl, rfl⟩
        unfold Builtin.«set.__init__» noKeywords Builtin.Frozenset.updateFrom
        generalize hPI : pyIter = PI
        wp_walk
        subst hPI
        refine wpAny_pyIter_tuple hl1 ?_
        refine wpAny_bind (wpAny_runValue ?_)
        have hlS : l < s.heap.objs.size := Heap.lt_size hol
        have hh3 : A.in1.in1.in1.handled = none := by simp [hh]
        have hz : (s.heap.push { cls := .type "set", dict := none, data := .set #[] 0 (.fresh 0 0 led) }).objs.size = s.heap.objs.size + 1 := Heap.size_push ..
        have hneI : l ≠ (s.heap.push { cls := .type "set", dict := none, data := .set #[] 0 (.fresh 0 0 led) }).objs.size := by rw [hz]; exact Nat.ne_of_lt (Nat.lt_succ_of_lt hlS)
        have hSf : s.heap.objs.size ∉ [(s.heap.push { cls := .type "set", dict := none, data := .set #[] 0 (.fresh 0 0 led) }).objs.size, l] := by
          rw [hz]
          simp only [List.mem_cons, List.not_mem_nil, or_false, not_or]
          exact ⟨Nat.ne_of_lt (Nat.lt_succ_self _), Nat.ne_of_gt hlS⟩
        have hsz : xs.length = its.size := by rw [← StrsAre.len_eq hi, Array.length_toList]
        have hval : ∀ (i : Nat) (v : Value), its[i]? = some v → ∃ x t, xs[i]? = some x ∧ v = .str x t := fun i v hv => by
          have hv' : its.toList[i]? = some v := by rw [Array.getElem?_toList]; exact hv
          have lt : i < xs.length := by rw [hsz]; exact (Array.getElem?_eq_some_iff.mp hv).1
          obtain ⟨t, e⟩ := SS.strs_at hi i v hv'
          refine ⟨xs[i], t, by simp [lt], ?_⟩
          rw [e]
          simp [lt]
        refine loopU ((Walks.tuple hh3 _ l hneI its).toS) s.heap.objs.size hSf xs hsz (by rw [← hsz]; exact hb) hval (its.size - 0) 0 _ (by omega) (Nat.zero_le _)
          ⟨⟨_, Heap.get?_push_size _ rfl, rfl, rfl⟩, (hl1.push _)⟩ ?hS0 ?hR
        case hS0 =>
          have hget : ((s.heap.push { cls := .type "set", dict := none, data := .set #[] 0 (.fresh 0 0 led) }).push { cls := .type "tuple_iterator", data := .fields #[.ref l, .int 0 0] }).get? s.heap.objs.size = some { cls := .type "set", dict := none, data := .set #[] 0 (.fresh 0 0 led) } := Heap.get?_push_of_some _ hS
          exact SetOf_congr ((setObjOf_fresh (knd := PySem.strKind P w) led).setOf hget (by unfold scanBound; omega)) (fun k => by simp [uniq]) rfl
        case hR =>
          intro s' hm hS'
          obtain ⟨h', g', d', tk', os'⟩ := s'
          have eg : g' = s.gens := hm.gens
          have ed : d' = s.drawn := hm.drawn
          have eo : os' = s.os := hm.os
          subst eg; subst ed; subst eo
          show wpAny _ _ _ _ _ _
          refine wpAny_pure ?_
          show wpAny _ _ (ret Value.none) _ _ _
          refine wpAny_pure ⟨rfl, h', tk', rfl, hS', fun b o hb e => ?_⟩
          exact hm.heap b o (by simp only [List.mem_cons, List.not_mem_nil, or_false, not_or]; exact ⟨Nat.ne_of_lt hb, by rw [hz]; exact Nat.ne_of_lt (Nat.lt_succ_of_lt hb)⟩) (Heap.get?_push_of_some _ (Heap.get?_push_of_some _ e))
      · cases r2 with
        | error e => exact hr2
        | ok fl2 =>
          cases fl2 with
          | next => exact hr2.elim
          | brk => exact hr2.elim
          | cont => exact hr2.elim
          | ret r =>
            obtain ⟨rfl, h', tk, rfl, hS', hk'⟩ := hr2
            repeat (any_goals (first | assumption | wp_step))
            exact h _ _ hS' hk'
end
section
variable {X : Cx}
def tLenU (K : PySem.W.Frag) (ta : TE) : TE := fun σ H Q => ta σ H fun x H1 => ∃ l, ∃ xs : List Str, x = .ref l ∧ SqT K H1 l (xs.map V.str) ∧ xs.length + 1 < scanBound ∧ Q (.int (uniq xs).length) H1
theorem pe_lenU {a : Expr} {ta : TE} {p p2 q pos : Pos} (hc : X.calm = true) (hg : Gl X "len") (hm : X.mg "len" = none) (hg2 : Gl X "set") (hm2 : X.mg "set" = none) (ha : PE X a ta)
    (na : starEach [a] X.env = (false, eval a X.env) :: starEach [] X.env := by rfl) : PE X (.Call (.Name "len" p) [.Call (.Name "set" p2) [a] [] q] [] pos) (tLenU X.K ta) := by
  refine ⟨fun pins s σ H Q I h => ?_⟩
  refine Call_ (ld_blt I hg hm boot_len ?_)
  refine callWith_builtin1 (args_cons ?_ rfl) rfl rfl
  refine Call_ (ld_blt I hg2 hm2 boot_set ?_)
  refine callWith_type1 (args_cons (thn (ha.run pins s σ H _ I h) fun v s1 ⟨x, H1, I1, r1, q1⟩ => args_nil ?_) na) na rfl
  obtain ⟨l, xs, rfl, hq, h1, q1⟩ := q1
  cases r1
  obtain ⟨its, r, pl, hz⟩ := I1.tuple hq
  refine set_of_tuple (I1.ok.hd hc) pl (by simpa using strsAre_of r) h1 fun h' tk hS hk => ?_
  obtain ⟨o, es, ep, t, ho, hex, hd, _, _, _, hf, hn⟩ := hS
  have I2 : Inv X pins σ H1 { s1 with heap := h', toks := tk } := I1.kept fun b o e => hk b o (Heap.lt_size e) e
  have := uniq_le xs
  have sb : scanBound = 4096 := rfl
  refine args_nil ?_
  refine call_len_set ho hex hd hf (by rw [hn]; omega) ⟨.int (uniq xs).length, H1, I2.tok _, ⟨_, by rw [hn]⟩, q1⟩
end
end TS2

set_option Elab.async false
set_option maxRecDepth 100000
set_option maxHeartbeats 4000000
set_option linter.all false
/-! own errors over LookupError: made, stored into, read, asked for their class -/
namespace L2
open PySem PySem.Spec PyProof.Rows
abbrev leTail : List Value :=
  [.type "LookupError", .type "Exception", .type "BaseException", .type "object"]
/-- what the written part says of an own error class -/
structure ErrC (K : PySem.W.Frag) (C : Addr) : Prop where
  ini : PySem.W.excInitIn K C leTail "LookupError.__new__" = true
  ovr : PySem.W.excOver K C leTail = true
  sa : PySem.W.findIn K (.ref C) "__setattr__" = some (some (.builtin "object.__setattr__"))
  ga : PySem.W.findIn K (.ref C) "__getattribute__"
    = some (some (.builtin "BaseException.__getattribute__"))
  gg : PySem.W.findIn K (.ref C) "__getattr__" = some none
  exC : PySem.W.subIn K (.ref C) (.type "BaseException") = some true
  tyC : PySem.W.typeIn K (.ref C) = some (.type "type")
  kC : PySem.W.keepIn K (.ref C) = true
  hdC : PySem.W.hasDictIn K C = true
  ca : PySem.W.findIn K (.ref C) "__class__" = some (some (.builtin "object.__class__"))
  cg : PySem.W.specialIn K (.builtin "object.__class__") "__get__"
    = some (some (.builtin "getset_descriptor.__get__"))
  ct : PySem.W.takesIn K (.builtin "object.__class__") = some true
  cm : PySem.W.mroIn K C (.type "object") = some true
theorem taker_none {K : PySem.W.Frag} {C : Addr} {f : Str}
    (h : PySem.W.findIn K (.ref C) f = some none) : PySem.W.takerIn K C f = some none := NoAttr.taker h
section
variable {prog : Program} {w : World} {A : Around} {R : Result → Shared → Prop} {hp : Heap} {g : Array GenState}
  {d : Drawn} {t : Nat} {os : OsState} {K : PySem.W.Frag} {C x t0 : Addr} {name : Str} {tk : Tok} {v : Value}
/-- object.__setattr__ on a fresh error: its dict is made -/
theorem sa_new (T : ErrC K C) (X : K.In hp)
    (hx : hp.get? x = some { cls := .ref C, data := .fields #[.ref t0, .none, .none, .none, .bool false, .none] })
    (hno : PySem.W.findIn K (.ref C) name = some none)
    (hq : ∀ h' tk' dx, (∀ b o, b ≠ x → hp.get? b = some o → h'.get? b = some o) → hp.objs.size ≤ dx → dx ≠ x →
      h'.get? x = some { cls := .ref C, dict := some dx, data := .fields #[.ref t0, .none, .none, .none, .bool false, .none] } →
      h'.Ns1 dx (fun y => if y = name then some v else none) → R (.ok (.ret .none)) ⟨h', g, d, tk', os⟩) :
    codeAny (model prog w) A (.call (.builtin "object.__setattr__") ⟨[.ref x, .str name tk, v], []⟩) R
      ⟨hp, g, d, t, os⟩ := by
  have J : PySem.W.InstAt hp x { cls := .ref C, data := .fields #[.ref t0, .none, .none, .none, .bool false, .none] } C none :=
    ⟨hx, rfl, rfl, trivial⟩
  have hne : x ≠ hp.objs.size := Nat.ne_of_lt (Heap.lt_size hx)
  obtain ⟨cd, hcd, hdd⟩ := PySem.W.any_some T.hdC
  refine PySem.W.osa_openX PySem.F.store_LookupError X J T.ovr (taker_none hno) fun b => ?_
  have Lc : PySem.W.Looks (model prog w) hp (classData C) cd := PySem.W.looks_clsIn X hcd
  show wpAny _ _ (Builtin.ObjectAttr.storeInOwnDict (.ref x) (.ref C) (.str name tk) name v b) _ _ _
  unfold Builtin.ObjectAttr.storeInOwnDict Builtin.ObjectAttr.ownDictForStores
  repeat (first | with_reducible refine PySem.HandSPX.store_in_new ?_ ?_ | with_reducible refine wpAny_loadPart_at hx ?_ | with_reducible refine Lc.at ?_ | wp_step)
  · exact ⟨_, #[], _, (Heap.get?_update_ne _ _ _ _ hne.symm).trans (Heap.get?_push_at rfl rfl), rfl,
      fun e he => absurd he (by simp), fun _ => rfl⟩
  · intro h1 t1 ns same
    have hx1 := Heap.get?_push_of_some ({ cls := .type "dict", data := .dict #[] } : Obj) hx
    refine hq h1 t1 hp.objs.size (fun c o hc ho => ?_) (Nat.le_refl _) hne.symm ?_ ns
    · rw [same.2 c (Nat.ne_of_lt (Heap.lt_size ho)), Heap.get?_update_ne _ _ _ _ hc]
      exact Heap.get?_push_of_some _ ho
    · rw [same.2 x hne]
      exact Heap.get?_update_self _ hx1 rfl
/-- object.__setattr__ on an error that has its dict -/
theorem sa_old (T : ErrC K C) (X : K.In hp) {dx : Addr} {m0 : Str → Option Value} {nl : List Str}
    (hx : hp.get? x = some { cls := .ref C, dict := some dx, data := .fields #[.ref t0, .none, .none, .none, .bool false, .none] })
    (hns : hp.Ns1 dx m0) (hw : Within m0 nl) (hz : nl.length ≤ 1000)
    (hno : PySem.W.findIn K (.ref C) name = some none)
    (hq : ∀ h' tk', (∀ b o, b ≠ dx → hp.get? b = some o → h'.get? b = some o) →
      h'.Ns1 dx (fun y => if y = name then some v else m0 y) → R (.ok (.ret .none)) ⟨h', g, d, tk', os⟩) :
    codeAny (model prog w) A (.call (.builtin "object.__setattr__") ⟨[.ref x, .str name tk, v], []⟩) R
      ⟨hp, g, d, t, os⟩ := by
  obtain ⟨oD, _, _, hoD, _, _⟩ := hns.count hw
  have J : PySem.W.InstAt hp x { cls := .ref C, dict := some dx, data := .fields #[.ref t0, .none, .none, .none, .bool false, .none] } C (some oD) :=
    ⟨hx, rfl, rfl, hoD⟩
  obtain ⟨cd, hcd, hdd⟩ := PySem.W.any_some T.hdC
  refine PySem.W.osa_openX PySem.F.store_LookupError X J T.ovr (taker_none hno) fun b => ?_
  have Lc : PySem.W.Looks (model prog w) hp (classData C) cd := PySem.W.looks_clsIn X hcd
  show wpAny _ _ (Builtin.ObjectAttr.storeInOwnDict (.ref x) (.ref C) (.str name tk) name v b) _ _ _
  unfold Builtin.ObjectAttr.storeInOwnDict Builtin.ObjectAttr.ownDictForStores
  repeat (first | with_reducible refine PySem.OEX.store_in_old hns hw hz ?_ | with_reducible refine wpAny_loadPart_at hx ?_ | with_reducible refine Lc.at ?_ | wp_step)
  intro h1 t1 ns same
  exact hq h1 t1 (fun c o hc ho => (same.2 c hc).trans ho) ns
end
end L2

set_option Elab.async false
set_option maxRecDepth 100000
set_option maxHeartbeats 4000000
set_option linter.all false
namespace L2
open PySem PySem.Spec PySem.HandSPX
section
variable {M : Model} {A : Around} {E : Value → Shared → Prop} {h : Heap} {g : Array GenState} {d : Drawn} {t : Nat} {os : OsState}
variable {nm q : Str} {C N : Addr} {bs bm bmB : List Value} {hdct : Bool} {sn : List Str} {sub : List Value} {ab : Bool} {col : Option Bool} {dd : Option Addr} {k0 k1 k2 k3 k5 : Option Value} {B newId initId : String}
theorem check_new_kw (F : ExcBaseFacts B newId initId bmB) (hT : ∀ X : String, bm.contains (.type X) = bmB.contains (.type X)) {rest : List Value} {kw : List (Str × Value)} {Q : Unit → Shared → Prop}
    (hC : h.get? C = some (excClassObj nm q C N bs bm hdct sn sub ab col dd k0 k1 k2 k3 k5 newId)) (hq : Q () ⟨h, g, d, t, os⟩) :
    wpAny M A (checkBuiltinCall newId ⟨.ref C :: rest, kw⟩) Q E ⟨h, g, d, t, os⟩ := by
  have hB : (Value.ref C :: bm).contains (.type B) = true := by rw [List.contains_cons, hT, F.hasB, Bool.or_true]
  have hS := F.noStar
  simp only [checkBuiltinCall, F.newKind, F.newSplit, F.newRow]
  repeat (first | refine wpAny_loadPart_at hC ?_ | (refine wpAny_isSubtype_exc hC ?_; rw [hB]) | refine wpAny_staticBase_exc hC ?_ | refine wpAny_madeBy_exc hC ?_ | simp only [bne_self_eq_false, Bool.false_eq_true, if_false] | wp_step)
  exact hq
end
section
variable {prog : Program} {w : World} {A : Around} {E : Value → Shared → Prop} {R : Result → Shared → Prop} {h : Heap} {g : Array GenState} {d : Drawn} {t : Nat} {os : OsState}
variable {nm q : Str} {C N : Addr} {bs bm bmB : List Value} {hdct : Bool} {sn : List Str} {sub : List Value} {ab : Bool} {col : Option Bool} {dd : Option Addr} {k0 k1 k2 k3 k5 : Option Value} {B newId initId : String}
theorem new_kw (F : ExcBaseFacts B newId initId bmB) (hT : ∀ X : String, bm.contains (.type X) = bmB.contains (.type X)) {rest : List Value} {kw : List (Str × Value)}
    (hC : h.get? C = some (excClassObj nm q C N bs bm hdct sn sub ab col dd k0 k1 k2 k3 k5 newId)) (hr : rest.length ≤ sizeLine)
    (hq : R (.ok (.ret (.ref (h.objs.size + 1)))) ⟨(h.push (PySem.W.kdv_tup rest)).push (excO C h.objs.size), g, d, t, os⟩) :
    codeAny (model prog w) A (.builtin newId ⟨.ref C :: rest, kw⟩) R ⟨h, g, d, t, os⟩ := by
  have hE := F.ends
  have hB : (Value.ref C :: bm).contains (.type B) = true := by rw [List.contains_cons, hT, F.hasB, Bool.or_true]
  have hA : (Value.ref C :: bm).contains (.type "AttributeError") = false := by rw [List.contains_cons, hT, F.noAttr]; rfl
  have hN : (Value.ref C :: bm).contains (.type "NameError") = false := by rw [List.contains_cons, hT, F.noName]; rfl
  refine codeAny_builtinAt F.entry ?_
  unfold Builtin.«BaseException.__new__»
  refine wpAt_bind ?_
  show wpAt _ _ _ (stack >>= _) _ _ _
  refine wpAt_bind (wpAt_stack fun p below => wpAt_of_wpAny ?_)
  wp_walk
  refine wpAt_of_wpAny ?_
  rw [F.owner]
  repeat (first | with_reducible refine wpAny_madeHere_exc F.canon hC ?_ | with_reducible refine wpAny_loadPart_at hC ?_ | (with_reducible refine wpAny_isSubtype_exc hC ?_; first | rw [hB] | rw [hA] | rw [hN]) | wp_step)
  show R _ _
  rw [Heap.size_push]
  exact hq
theorem type_call_kw (F : ExcBaseFacts B newId initId bmB) (hT : ∀ X : String, bm.contains (.type X) = bmB.contains (.type X)) {rest : List Value} {kw : List (Str × Value)} {fI : Addr} {Q : Fin → Shared → Prop}
    (hC : h.get? C = some (excClassObj nm q C N bs bm hdct sn sub ab col dd k0 k1 k2 k3 k5 newId))
    (hi : W.Looks (model prog w) h (typeLookup (.ref C) "__init__") (some (.ref fI))) (hb : ∀ self, W.Looks (model prog w) h (bindSpecial (.ref fI) self) (.ref fI, [self])) (hr : rest.length ≤ sizeLine)
    (hq : codeAny (model prog w) A (.call (.ref fI) ⟨.ref (h.objs.size + 1) :: rest, kw⟩)
      (fun r s' => match r with | .ok (.ret v) => v = .none ∧ Q (.done (.ret (.ref (h.objs.size + 1)))) s' | .ok _ => False | .error e => E e s')
      ⟨(h.push (PySem.W.kdv_tup rest)).push (excO C h.objs.size), g, d, t, os⟩) :
    wpAny (model prog w) A (Builtin.«type.__call__» ⟨.ref C :: rest, kw⟩) Q E ⟨h, g, d, t, os⟩ := by
  repeat (first | with_reducible refine wpAny_loadPart_at hC ?_ | with_reducible refine wpAny_madeBy_exc hC ?_ | wp_step)
  refine codeAny_call_builtin_code (Code.quiet_builtin _ F.quiet) (check_new_kw F hT hC ?_)
  refine new_kw F hT hC hr ?_
  show wpAny _ _ _ _ _ _
  have kp : ∀ b o, h.get? b = some o → ((h.push (PySem.W.kdv_tup rest)).push (excO C h.objs.size)).get? b = some o := fun b o e => Heap.get?_push_of_some _ (Heap.get?_push_of_some _ e)
  have hC1 := kp _ _ hC
  have hx : ((h.push (PySem.W.kdv_tup rest)).push (excO C h.objs.size)).get? (h.objs.size + 1) = some (excO C h.objs.size) := by heap_get
  have hcc : (Value.ref C :: bm).contains (.ref C) = true := by simp
  have i1 := hi.keeps kp
  have b1 := (hb (.ref (h.objs.size + 1))).keeps kp
  unfold isInstance
  repeat (first | with_reducible refine wpAny_loadPart_at hx ?_ | (with_reducible refine wpAny_isSubtype_exc hC1 ?_; rw [hcc]) | wp_step)
  show wpAny _ _ (typeLookup (.ref C) _) _ _ _
  refine i1.at ?_
  refine wpAny_holding (wpAny_bind (b1.at ?_))
  refine wpAny_bind (wpAny_call (codeAny_mono hq fun r s' z => ?_))
  rcases r with e | (v | _ | _ | _) <;> first | exact z | exact z.elim | skip
  obtain ⟨rfl, z⟩ := z
  first
    | exact wpAny_pure (wpAny_pure z)
    | (wp_walk; exact z)
theorem call_kw (F : ExcBaseFacts B newId initId bmB) (hT : ∀ X : String, bm.contains (.type X) = bmB.contains (.type X)) {rest : List Value} {kw : List (Str × Value)} {fI : Addr}
    (hC : h.get? C = some (excClassObj nm q C N bs bm hdct sn sub ab col dd k0 k1 k2 k3 k5 newId))
    (hi : W.Looks (model prog w) h (typeLookup (.ref C) "__init__") (some (.ref fI))) (hb : ∀ self, W.Looks (model prog w) h (bindSpecial (.ref fI) self) (.ref fI, [self])) (hr : rest.length ≤ sizeLine)
    (hq : codeAny (model prog w) (A.under (.builtin "type.__call__" ⟨.ref C :: rest, kw⟩)) (.call (.ref fI) ⟨.ref (h.objs.size + 1) :: rest, kw⟩) (W.InitBack (h.objs.size + 1) R)
      ⟨(h.push (PySem.W.kdv_tup rest)).push (excO C h.objs.size), g, d, t, os⟩) :
    codeAny (model prog w) A (.call (.ref C) ⟨rest, kw⟩) R ⟨h, g, d, t, os⟩ := by
  have f1 := tc_lookup
  have f2 := tc_bind (.ref C)
  have hTy : (⟨h, g, d, t, os⟩ : Shared).TypeIs (.ref C) "type" := ⟨_, hC, rfl⟩
  refine codeAny_of_tree ?_
  show wpAny _ _ (callAny (.ref C) _) _ _ _
  repeat (any_goals (first | assumption | with_reducible refine wpAny_loadPart_at hC ?_ | wp_step))
  refine ⟨rfl, ?_⟩
  refine codeAny_call_builtin_at (Code.quiet_builtin _ (by decide +kernel)) entry_typeCall (wpAny_check_type_call_sub hC (type_call_kw F hT hC hi hb hr ?_))
  refine codeAny_mono hq fun r s' z => ?_
  rcases r with e | (v | _ | _ | _) <;> exact z
end
end L2

set_option Elab.async false
set_option maxRecDepth 100000
set_option maxHeartbeats 4000000
set_option linter.all false
namespace L2
open PySem PySem.Spec PyProof.Rows
section
variable {X : Cx} {pins : List (Addr × Obj)} {σ : St} {H : Hp} {s : Shared} {a C dx : Addr} {f : Str} {y : V} {u : Value}
  {fs : List (Str × V)} {Q : Unit → Shared → Prop} {E : Value → Shared → Prop} {A : Around}
/-- the error at a gets its dict at dx, both tracked -/
theorem swap_un {hp h' : Heap} {ex : List Addr} (fr : List Addr) (hok : HOk X.prog X.w H hp) (e : H a = some (exo a C none)) (dn : hp.objs.size ≤ dx)
    (kp : ∀ b o, b ≠ a → hp.get? b = some o → h'.get? b = some o) (ha : ∃ o, h'.get? a = some o) :
    Un fr ex H (upd (upd H dx (exd dx fs)) a (exo a C (some dx))) hp h' := by
  have nd : H dx = none := hok.fresh dn
  have old : ∀ {b : Addr} {o : Obj}, hp.get? b = some o → b ≠ dx := fun z => Nat.ne_of_lt (Nat.lt_of_lt_of_le (Heap.lt_size z) dn)
  have na : ∀ {b : Addr}, H b = none → b ≠ a := fun n z => by rw [z, e] at n; cases n
  have kind : ∀ {b : Addr} {o : HO}, H b = some o → exo a C none ≠ o → upd (upd H dx (exd dx fs)) a (exo a C (some dx)) b = some o := fun {b o} z d => by
    rw [upd_ne (at_ne e z d), upd_ne (ne_of_none z nd)]
    exact z
  exact {
    keep := fun b o z n _ _ => kp b o (na n) z
    slot := fun b o z n _ _ => ⟨o.slots, kp b o (na n) z⟩
    free := fun b o z n _ => by
      rw [upd_ne (na n), upd_ne (old z)]
      exact n
    there := fun b o z _ => by
      rcases Decidable.em (b = a) with q | q
      · rw [q]; exact ha
      · exact ⟨o, kp b o q z⟩
    tups := fun b xs z => kind z exo_tup
    frzs := fun b o v z => kind z exo_frz
    tbls := fun b ps z => ⟨#[], by rw [kind z exo_tbl]; simp⟩ }
theorem swap_ok {hp h' : Heap} {t1 : Addr} {mA : Str → Option Value} (hok : HOk X.prog X.w H hp) (e : H a = some (exo a C none)) (dn : hp.objs.size ≤ dx)
    (kp : ∀ b o, b ≠ a → hp.get? b = some o → h'.get? b = some o)
    (ha : h'.get? a = some { cls := .ref C, dict := some dx, data := .fields #[.ref t1, .none, .none, .none, .bool false, .none] })
    (hn : h'.Ns1 dx mA) (r : ∀ g, RelO (fs.lookup g) (mA g)) : HOk X.prog X.w (upd (upd H dx (exd dx fs)) a (exo a C (some dx))) h' := by
  have nd : H dx = none := hok.fresh dn
  intro b o q
  rcases Decidable.em (b = a) with z | z
  · subst z
    rw [upd_same] at q
    cases q
    exact exo_ok ha
  · rw [upd_ne z] at q
    rcases Decidable.em (b = dx) with z2 | z2
    · subst z2
      rw [upd_same] at q
      cases q
      exact exd_ok hn r
    · rw [upd_ne z2] at q
      have far : ∀ {c : Addr} {u : HO}, H c = some u → exo a C none ≠ u → upd (upd H dx (exd dx fs)) a (exo a C (some dx)) c = some u := fun {c u} k d => by
        rw [upd_ne (at_ne e k d), upd_ne (ne_of_none k nd)]
        exact k
      exact (hok b o q).stay (fun c v hc k => kp c v (by rcases hc with hc | hc; exact hc ▸ z; exact at_ne e hc exo_own) k)
        (fun c hc => far hc exo_own) (fun c xs hc => far hc exo_tup)
/-- self.f = y, the first store -/
theorem put_new (T : ErrC X.K C) (I : Inv X pins σ H s) (e : H a = some (exo a C none)) (hno : PySem.W.findIn X.K (.ref C) f = some none) (ry : RelV y u)
    (h : ∀ dx s', H dx = none → dx ≠ a → Inv X pins σ (upd (upd H dx (exd dx [(f, y)])) a (exo a C (some dx))) s' → Q () s') :
    wpAny (model X.prog X.w) A (setAttr (.ref a) f u) Q E s := by
  obtain ⟨t1, ho⟩ := exo_at I.hok e
  obtain ⟨hp, g, d, t, os⟩ := s
  refine PySem.W.set_plain I.kIn (od := none) ⟨ho, rfl, rfl, trivial⟩ T.sa ?_
  refine sa_new T I.kIn ho hno fun h' tk' dx k dn dne hx hn => ?_
  exact h dx _ (I.hok.fresh dn) dne (I.un (t' := tk') (swap_un _ I.hok e dn k ⟨_, hx⟩) (swap_ok I.hok e dn k hx hn (relO_put (fs := []) ry fun _ => True.intro)))
/-- self.f = y, a further store -/
theorem put_old (T : ErrC X.K C) (I : Inv X pins σ H s) (e : H a = some (exo a C (some dx))) (ed : H dx = some (exd dx fs)) (hl : fs.length ≤ 900)
    (hno : PySem.W.findIn X.K (.ref C) f = some none) (ry : RelV y u)
    (h : ∀ s', Inv X pins σ (upd H dx (exd dx ((f, y) :: fs))) s' → Q () s') : wpAny (model X.prog X.w) A (setAttr (.ref a) f u) Q E s := by
  obtain ⟨t1, ho⟩ := exo_at I.hok e
  obtain ⟨mA, hns, rel⟩ := exd_at I.hok ed
  have hw := within_of rel
  obtain ⟨hp, g, d, t, os⟩ := s
  obtain ⟨oD, _, _, hoD, _, _⟩ := hns.count hw
  refine PySem.W.set_plain I.kIn (od := some oD) ⟨ho, rfl, rfl, hoD⟩ T.sa ?_
  refine sa_old T I.kIn ho hns hw (by rw [List.length_map]; omega) hno fun h' tk' k hn => ?_
  have there : ∃ o, h'.get? dx = some o := let ⟨o, _, _, z, _⟩ := hn; ⟨o, z⟩
  exact h _ (I.write (t' := tk') (x := dx) (e := dx) (by rw [ed]; exact True.intro) (.inl rfl) k there (exd_ok hn (relO_put ry rel)))
end
/-- self.f = e in an own error's __init__ -/
def tPut (K : PySem.W.Frag) (f : Str) (to te : TE) : TS := fun D σ H => te σ H fun y H1 => to σ H1 fun x H2 => ∃ a C : Addr, x = .ref a ∧ ErrC K C ∧
  PySem.W.findIn K (.ref C) f = some none ∧
  ((H2 a = some (exo a C none) ∧ ∀ dx, H2 dx = none → dx ≠ a → D.nx σ (upd (upd H2 dx (exd dx [(f, y)])) a (exo a C (some dx)))) ∨
    ∃ (dx : Addr) (fs : List (Str × V)), H2 a = some (exo a C (some dx)) ∧ H2 dx = some (exd dx fs) ∧ fs.length ≤ 900 ∧ D.nx σ (upd H2 dx (exd dx ((f, y) :: fs))))
theorem ps_put {X : Cx} {o e : Expr} {to te : TE} {f : Str} {p' pos : Pos} (ho : PE X o to) (he : PE X e te)
    (hs : swapsWith e (some (.Attribute o f p')) pos.line X.env = pure false := by rfl) : PS X (.Assign [.Attribute o f p'] e pos) (tPut X.K f to te) := by
  refine ⟨fun pins s σ H D I h => ?_⟩
  refine plainObj_wpAny_Assign_Attribute (thn (he.run pins s σ H _ I h) fun v s1 ⟨y, H1, I1, r1, q1⟩ => thn (ho.run pins s1 σ H1 _ I1 q1) fun u s2 ⟨x, H2, I2, r2, q2⟩ => ?_) hs
  obtain ⟨a, C, ex, T, hno, q⟩ := q2
  subst ex
  obtain rfl : u = Value.ref a := r2
  rcases q with ⟨ea, q⟩ | ⟨dx, fs, ea, ed, hl, q⟩
  · exact put_new T I2 ea hno r1 fun dx s' n ne J => ⟨σ, _, J, q dx n ne⟩
  · exact put_old T I2 ea ed hl hno r1 fun s' J => ⟨σ, _, J, q⟩
/-- what __init__ of an own error promises: its values stand in its dict -/
def spErr (C : Addr) (fns : List Str) : Sp := fun vs H Q _ => ∃ (a : Addr) (ws : List V), vs = .ref a :: ws ∧ ws.length = fns.length ∧ H a = some (exo a C none) ∧
  ∀ dx H', H dx = none → dx ≠ a → H' dx = some (exd dx (fns.zip ws).reverse) → H' a = some (exo a C (some dx)) → (∀ b, b ≠ a → b ≠ dx → H' b = H b) → Q .non H'
/-- C(e, ..), C an own error class: a new error and its dict -/
def tNew (C : Addr) (fns : List Str) (ta : TA) : TE := fun σ H Q => ta σ H fun vs H1 => vs.length = fns.length ∧
  ∀ a dx H', H1 a = none → H1 dx = none → dx ≠ a → H' dx = some (exd dx (fns.zip vs).reverse) → H' a = some (exo a C (some dx)) → (∀ b, b ≠ a → b ≠ dx → H' b = H1 b) → Q (.ref a) H'
section
variable {X : Cx} {CX : CXT} {k : Nat} {fI C : Addr} {fd : FuncData} {fns ps : List Str} {x : Str} {p pos : Pos} {e : Expr} {es : List Expr} {ta : TA}
/-- an own error class whose __init__ keeps that promise -/
structure MkE (X : Cx) (CX : CXT) (k : Nat) (C fI : Addr) (fd : FuncData) (ps fns : List Str) : Prop where
  T : ErrC X.K C
  iC : PySem.W.findIn X.K (.ref C) "__init__" = some (some (.ref fI))
  tI : PySem.W.typeIn X.K (.ref fI) = some (.type "function")
  F : FnOk X.prog X.w X.K X.mg X.base CX k fI fd ps (spErr C fns)
  few : fns.length ≤ 1000
theorem run_new {pins : List (Addr × Obj)} {σ : St} {H : Hp} {s : Shared} {Q : VK} {us all : List Value} {vs : List V} {kw : List (Str × Value)} (M : MkE X CX k C fI fd ps fns) (hr : Room (k + 1) X.A) (hx : Passes CX X E0) (I : Inv X pins σ H s)
    (hb : ∀ (s : Shared) (e : Value), X.K.In s.heap → BindsTo s fd ⟨e :: us, kw⟩ (ps.zip (e :: all))) (hus : us.length ≤ sizeLine)
    (r : Vals vs all) (hl : vs.length = fns.length)
    (h : ∀ a dx H', H a = none → H dx = none → dx ≠ a → H' dx = some (exd dx (fns.zip vs).reverse) → H' a = some (exo a C (some dx)) → (∀ b, b ≠ a → b ≠ dx → H' b = H b) → Q (.ref a) H') :
    wpAny (model X.prog X.w) X.A (call (.ref C) us kw) (EP X pins σ Q) X.xe s := by
  obtain ⟨nm, N, qn, bs, bm, hdct, sn, sub, ab, col, dd, k0, k1, k2, k3, k5, hC, hT⟩ := PySem.W.excInit_of I.kIn M.T.ini
  obtain ⟨hp, g, dr, tk, os⟩ := s
  have hsz : hp.objs.size ≤ hp.objs.size + 1 := Nat.le_succ _
  have hn : H (hp.objs.size + 1) = none := I.hok.fresh hsz
  have kk : ∀ b o, hp.get? b = some o → ((hp.push (PySem.W.kdv_tup us)).push (PySem.HandSPX.excO C hp.objs.size)).get? b = some o := fun b o z => Heap.get?_push_of_some _ (Heap.get?_push_of_some _ z)
  have hget : ((hp.push (PySem.W.kdv_tup us)).push (PySem.HandSPX.excO C hp.objs.size)).get? (hp.objs.size + 1) = some (PySem.HandSPX.excO C hp.objs.size) := by heap_get
  have J : Inv X pins σ (upd H (hp.objs.size + 1) (exo (hp.objs.size + 1) C none)) ⟨(hp.push (PySem.W.kdv_tup us)).push (PySem.HandSPX.excO C hp.objs.size), g, dr, tk, os⟩ :=
    I.laid (t' := tk) kk hsz (exo_ok hget)
  have sp : spErr C fns (.ref (hp.objs.size + 1) :: vs) (upd H (hp.objs.size + 1) (exo (hp.objs.size + 1) C none)) (fun v H2 => v = .non ∧ Q (.ref (hp.objs.size + 1)) H2) E0 := by
    refine ⟨_, vs, rfl, hl, upd_same, fun dx H' nd ne e1 e2 e3 => ⟨rfl, h _ dx H' hn ?_ ne e1 e2 fun b h1 h2 => ?_⟩⟩
    · rw [upd_ne ne] at nd
      exact nd
    · rw [e3 b h1 h2, upd_ne h1]
  have r2 : Vals (V.ref (hp.objs.size + 1) :: vs) (Value.ref (hp.objs.size + 1) :: all) := .cons rfl r
  refine wpAny_call (call_kw PySem.F.excBase_LookupError hT hC (PySem.W.looks_findIn I.kIn M.iC) (fun self => PySem.W.bind_fn I.kIn self M.tI) hus
    (codeAny_mono (M.F.run _ X.stack _ _ ⟨Value.ref (hp.objs.size + 1) :: us, kw⟩ (Value.ref (hp.objs.size + 1) :: all) _ _ E0 (hr.make C us kw) (J.env0.make C us kw) (hb _ _ J.kIn) r2 sp) fun r s' hq' => ?_))
  cases r with
  | error er => exact hx pins σ _ _ er s' J hq'
  | ok fl =>
    cases fl with
    | ret u =>
      obtain ⟨v, H', I3, rv, ev, q3⟩ := J.after hq'
      subst ev
      exact ⟨rv, ⟨V.ref (hp.objs.size + 1), H', I3, rfl, q3⟩⟩
    | next => exact False.elim hq'
    | brk => exact False.elim hq'
    | cont => exact False.elim hq'
theorem pe_new (M : MkE X CX k C fI fd ps fns) (hr : Room (k + 1) X.A) (hg : Gl X x) (hm : X.mg x = some (.ref C)) (hb : Binds X.K fd ps []) (hp : ps.length = fns.length + 1) (hx : Passes CX X E0)
    (ha : PA X (e :: es) ta) (hdb : (x == ("__debug__" : Str)) = false := by decide) (he : starEach (e :: es) X.env = (false, eval e X.env) :: starEach es X.env := by rfl)
    (hpl : (backTo pos (starEach es X.env)).any (·.1) = false := by rfl) : PE X (.Call (.Name x p) (e :: es) [] pos) (tNew C fns ta) := by
  refine ⟨fun pins s σ H Q I h => ?_⟩
  refine wpAny_Call_Name_kw (ld_glob I hg hm ?_ hdb)
  refine PySem.W.callWith_K (h₀ := X.base) I.ok.mod.kin M.T.kC (thn (ha.run pos pins s σ H _ I h) fun us s1 ⟨vs, H1, I1, r, hl, q⟩ => ⟨I1.kIn, ?_⟩) he hpl
  have lu : us.length = fns.length := r.length.symm.trans hl
  refine run_new (all := us) M hr hx I1 (fun s e0 X0 => ?_) (by show us.length ≤ sizeLine; rw [lu, sizeLine_eq]; have := M.few; omega) r hl q
  have b := hb s (e0 :: us) X0 (by rw [List.append_nil, List.length_cons, lu, hp])
  rw [List.append_nil] at b
  exact b
/-- C(k = e, ..): g puts the keywords' values in the order of the parameters -/
theorem pe_newK {kws : List Keyword} {ks : List Str} {tk : TA} {g : {α : Type} → List α → List α} (M : MkE X CX k C fI fd ps fns) (hr : Room (k + 1) X.A) (hg : Gl X x) (hm : X.mg x = some (.ref C))
    (hb : ∀ (s : Shared) (e : Value) (ws : List Value), X.K.In s.heap → ws.length = fns.length → BindsTo s fd ⟨[e], ks.zip ws⟩ (ps.zip (e :: g ws)))
    (hrel : ∀ {zs : List V} {ws : List Value}, Vals zs ws → zs.length = fns.length → Vals (g zs) (g ws)) (hlen : ∀ zs : List V, zs.length = fns.length → (g zs).length = fns.length) (hx : Passes CX X E0)
    (hkw : PK X kws tk) (hall : (backToKw pos (keywordEach kws X.env)).all (·.1.isSome) = true := by rfl) (hks : (backToKw pos (keywordEach kws X.env)).filterMap (·.1) = ks := by rfl)
    (hdb : (x == ("__debug__" : Str)) = false := by decide)
    (hpl : ((backTo pos (starEach [] X.env)).any (·.1) || (backToKw pos (keywordEach kws X.env)).any (·.1.isNone)) = false := by rfl) :
    PE X (.Call (.Name x p) [] kws pos) (tNew C fns fun σ H Q => tk σ H fun zs H1 => zs.length = fns.length ∧ Q (g zs) H1) := by
  refine ⟨fun pins s σ H Q I h => ?_⟩
  refine wpAny_Call_Name_kw (ld_glob I hg hm ?_ hdb)
  refine PySem.W.callWith_KW0 (h₀ := X.base) I.ok.mod.kin M.T.kC hall ?_ hpl
  refine thn (hkw.run pos pins s σ H _ I h) fun ws s2 ⟨zs, H2, I2, rz, lz, l2, q2⟩ => ⟨I2.kIn, ?_⟩
  rw [hks]
  exact run_new (us := []) (all := g ws) M hr hx I2 (fun s e0 X0 => hb s e0 ws X0 (rz.length.symm.trans lz)) (by show 0 ≤ sizeLine; exact Nat.zero_le _) (hrel rz lz) l2 q2
/-- e.f, e an own error -/
def tEf (C : Addr) (f : Str) (te : TE) : TE := fun σ H Q => te σ H fun x H1 => ∃ (a dx : Addr) (fs : List (Str × V)) (v : V), x = .ref a ∧ H1 a = some (exo a C (some dx)) ∧ H1 dx = some (exd dx fs) ∧ fs.lookup f = some v ∧ Q v H1
theorem pe_ef {te : TE} {f : Str} (T : ErrC X.K C) (hno : PySem.W.findIn X.K (.ref C) f = some none) (he : PE X e te)
    (hb : attributeBase e f X.env (eval e X.env) = eval e X.env := by rfl) : PE X (.Attribute e f pos) (tEf C f te) := by
  refine ⟨fun pins s σ H Q I h => ?_⟩
  refine attr_of hb (thn (he.run pins s σ H _ I h) fun u s1 hh => ?_)
  obtain ⟨x, H1, I1, rx, a, dx, fs, v, ex, ea, ed, l, q⟩ := hh
  subst ex
  obtain rfl : u = Value.ref a := rx
  obtain ⟨t1, ho⟩ := exo_at I1.hok ea
  obtain ⟨mA, hns, hr⟩ := exd_at I1.hok ed
  obtain ⟨od, hod, hl⟩ := lookIn_ns hns
  obtain ⟨u, hu, ru⟩ := RelO.some_of (v := v) (o := mA f) (by rw [← l]; exact hr f)
  have J : PySem.W.InstAt s1.heap a _ C (some od) := ⟨ho, rfl, rfl, hod⟩
  exact HandSPX.exc_get I1.kIn J T.ga T.gg T.exC (PySem.W.findObj_own T.hdC hno rfl (by rw [hl, hu])) (handed_of ru) ⟨v, H1, I1.tok _, ru, q⟩
end
end L2

set_option Elab.async false
set_option maxRecDepth 100000
set_option maxHeartbeats 4000000
set_option linter.all false
namespace L2
open PySem PySem.Spec PyProof.Rows
/-! ### isinstance of an own error that has its dict -/
def rIsErr (K : PySem.W.Frag) (C : Addr) : List V → Hp → VK → Prop := fun xs H Q => ∃ (a dx : Addr) (fs : List (Str × V)) (c : V) (u : Value) (b : Bool),
  xs = [.ref a, c] ∧ H a = some (exo a C (some dx)) ∧ H dx = some (exd dx fs) ∧ ClsV c u ∧ PySem.W.kitOne K (.ref C) u = some b ∧ Q (.bl b) H
theorem call_isErr {X : Cx} {C : Addr} (T : ErrC X.K C) : CallR X (.builtin "isinstance") (rIsErr X.K C) := by
  intro pins s σ H xs us Q I r h
  obtain ⟨a, dx, fs, c, u, b, rfl, ea, ed, k, e, q⟩ := h
  obtain ⟨u1, u2, rfl, r1, r2⟩ := vals2 r
  cases (show u1 = Value.ref a from r1)
  have e2 := k.eq r2
  subst e2
  obtain ⟨t1, ho⟩ := exo_at I.hok ea
  obtain ⟨mA, hns, hr⟩ := exd_at I.hok ed
  obtain ⟨od, hod, hl⟩ := lookIn_ns hns
  have J : PySem.W.InstAt s.heap a _ C (some od) := ⟨ho, rfl, rfl, hod⟩
  obtain ⟨cd, hcd, _⟩ := PySem.W.any_some T.hdC
  exact PySem.W.kia_one (PySem.W.kitx_exc (by rw [hcd]; rfl) T.ga T.gg T.exC T.ca T.cg T.ct T.cm) I.kIn J e (fun z => nomatch z) fun tk => ⟨.bl b, H, I.tok tk, rfl, q⟩
/-! ### a power of a greater number -/
def CPowW (i j : Int) : Prop := i.natAbs.log2 < 1000 ∧ 0 ≤ j ∧ j ≤ 1000
theorem op_powW {X : Cx} : OpR X (binaryOp .Pow) (rI CPowW fun i j => .int (i ^ j.toNat)) := opI fun i j t u s Q E hc q => by
  obtain ⟨h1, h2, h3⟩ := hc
  have z : bitsLine = 134217728 := by decide
  have b : Builtin.Int.intBits i ≤ i.natAbs.log2 + 1 := by
    unfold Builtin.Int.intBits
    split <;> omega
  refine pow_int h2 ?_ q
  have c : (Builtin.Int.intBits i : Int) ≤ 1000 := by omega
  have m := Int.mul_le_mul c h3 h2 (by decide : (0 : Int) ≤ 1000)
  exact Int.le_trans m (by decide)
end L2
namespace He
open PySem PySem.Spec PyProof.Rows L2
/-! ### own errors by the head -/
/-- what the head tells of an own error class -/
def errB (K : PySem.W.Frag) (C : Addr) : Bool :=
  PySem.W.excInitIn K C leTail "LookupError.__new__" && (PySem.W.excOver K C leTail &&
  (eqO (PySem.W.findIn K (.ref C) "__setattr__") (some (some (.builtin "object.__setattr__"))) &&
  (eqO (PySem.W.findIn K (.ref C) "__getattribute__") (some (some (.builtin "BaseException.__getattribute__"))) &&
  (eqO (PySem.W.findIn K (.ref C) "__getattr__") (some none) &&
  (decide (PySem.W.subIn K (.ref C) (.type "BaseException") = some true) && (decide (PySem.W.typeIn K (.ref C) = some (.type "type")) &&
  (PySem.W.keepIn K (.ref C) && (PySem.W.hasDictIn K C &&
  (eqO (PySem.W.findIn K (.ref C) "__class__") (some (some (.builtin "object.__class__"))) &&
  (eqO (PySem.W.specialIn K (.builtin "object.__class__") "__get__") (some (some (.builtin "getset_descriptor.__get__"))) &&
  (decide (PySem.W.takesIn K (.builtin "object.__class__") = some true) && decide (PySem.W.mroIn K C (.type "object") = some true))))))))))))
theorem errB_ok {K : PySem.W.Frag} {C : Addr} (h : errB K C = true) : ErrC K C := by
  obtain ⟨h1, h⟩ := ba h
  obtain ⟨h2, h⟩ := ba h
  obtain ⟨h3, h⟩ := ba h
  obtain ⟨h4, h⟩ := ba h
  obtain ⟨h5, h⟩ := ba h
  obtain ⟨h6, h⟩ := ba h
  obtain ⟨h7, h⟩ := ba h
  obtain ⟨h8, h⟩ := ba h
  obtain ⟨h9, h⟩ := ba h
  obtain ⟨h10, h⟩ := ba h
  obtain ⟨h11, h⟩ := ba h
  obtain ⟨h12, h13⟩ := ba h
  exact ⟨h1, h2, eqO_ok h3, eqO_ok h4, eqO_ok h5, of_decide_eq_true h6, of_decide_eq_true h7, h8, h9, eqO_ok h10, eqO_ok h11, of_decide_eq_true h12, of_decide_eq_true h13⟩
/-- .. and of its __init__ -/
def iniB (K : PySem.W.Frag) (C : Addr) : Bool :=
  eqO (PySem.W.findIn K (.ref C) "__init__") (some (some (.ref (ma K C "__init__")))) &&
  decide (PySem.W.typeIn K (.ref (ma K C "__init__")) = some (.type "function"))
end He

set_option Elab.async false
set_option maxRecDepth 100000
set_option maxHeartbeats 4000000
set_option linter.all false
namespace L2
open PySem PySem.Spec PyProof.Rows
/-! ### a def of the module by its name -/
structure Def (P : Program) (w : World) (K : PySem.W.Frag) (mg : Str → Option Value) (base : Heap) (CX : CXT) (k : Nat) (x : Str) (ps : List Str) (sp : Sp) : Prop where
  ex : ∃ (f : Addr) (fd : FuncData), mg x = some (.ref f) ∧ PySem.W.keepIn K (.ref f) = true ∧ Binds K fd ps [] ∧ FnOk P w K mg base CX k f fd ps sp
section
variable {X : Cx} {CX : CXT} {k : Nat} {ps : List Str} {sp : Sp} {E : XK} {x : Str} {p pos : Pos} {e : Expr} {es : List Expr} {t : TA}
theorem pe_ref {a : Addr} {pos : Pos} (hg : Gl X x) (hm : X.mg x = some (.ref a)) (hd : (x == ("__debug__" : Str)) = false := by decide) : PE X (.Name x pos) (tC (.ref a)) :=
  pe_glob hg hm (show RelV (.ref a) (Value.ref a) from rfl) hd
theorem pe_fn (c : Def X.prog X.w X.K X.mg X.base CX k x ps sp) (hr : Room k X.A) (hg : Gl X x) (hx : Passes CX X E) (ha : PA X (e :: es) t)
    (hdb : (x == ("__debug__" : Str)) = false := by decide) (he : starEach (e :: es) X.env = (false, eval e X.env) :: starEach es X.env := by rfl)
    (hpl : (backTo pos (starEach es X.env)).any (·.1) = false := by rfl) : PE X (.Call (.Name x p) (e :: es) [] pos) (tCall sp [] E t) := by
  obtain ⟨f, fd, hm, hk, hb, F⟩ := c.ex
  exact pe_call F hr hg hm hk hb .nil hx ha hdb he hpl
theorem pe_fn0 (c : Def X.prog X.w X.K X.mg X.base CX k x ps sp) (hr : Room k X.A) (hg : Gl X x) (hx : Passes CX X E)
    (hdb : (x == ("__debug__" : Str)) = false := by decide) : PE X (.Call (.Name x p) [] [] pos) (tCall sp [] E tNil) := by
  obtain ⟨f, fd, hm, hk, hb, F⟩ := c.ex
  exact pe_call0 F hr hg hm hk hb .nil hx hdb
end
/-! ### __init__ of an own error: it stores what it is given -/
section
variable {P : Program} {w : World} {K : PySem.W.Frag} {mg : Str → Option Value} {base : Heap}
theorem ok_ini1 {C f : Addr} {fd : FuncData} {fn qual : Str} {params : Arguments} {scope : Scope} {p1 p2 p3 p4 : Pos}
    (F : FunD K "__init__" qual params [.Assign [.Attribute (.Name "self" p1) fn p2] (.Name fn p3) p4] scope [] [] f fd) (S : FnScope ["self", fn] ["self", fn] scope)
    (v1 : scope.names.lookup ("self" : Str) = some NameKind.local) (v2 : scope.names.lookup fn = some NameKind.local) (d1 : (fn == ("__debug__" : Str)) = false) (d2 : (fn == ("__classdict__" : Str)) = false)
    (T : ErrC K C) (hno : PySem.W.findIn K (.ref C) fn = some none) : FnOk P w K mg base CX0 1 f fd ["self", fn] (spErr C [fn]) := by
  refine F.ok S (fun vs H Q E h => ?_) (fun cdv A outer s H vs Q E hr h => ?_)
  · obtain ⟨a, ws, rfl, hl, _⟩ := h
    rw [List.length_cons, hl] <;> rfl
  · obtain ⟨a, ws, rfl, hl, ha, k⟩ := h
    obtain ⟨y, rfl⟩ : ∃ y, ws = [y] := by
      match ws, hl with
      | [y], _ => exact ⟨y, rfl⟩
    refine ⟨_, PSs.nox (pss_one (ps_put (pe_var (i := 0) rfl (.inl v1)) (pe_var (i := 1) rfl (.inl v2) d1 d2))), ?_⟩
    refine ⟨_, rfl, _, rfl, a, C, rfl, T, hno, .inl ⟨ha, fun dx nd ne => ?_⟩⟩
    refine k dx _ nd ne ?_ upd_same fun b h1 h2 => ?_
    · rw [upd_ne ne, upd_same]
      rfl
    · rw [upd_ne h1, upd_ne h2]
theorem ok_ini2 {C f : Addr} {fd : FuncData} {fn gn qual : Str} {params : Arguments} {scope : Scope} {p1 p2 p3 p4 q1 q2 q3 q4 : Pos}
    (F : FunD K "__init__" qual params [.Assign [.Attribute (.Name "self" p1) fn p2] (.Name fn p3) p4, .Assign [.Attribute (.Name "self" q1) gn q2] (.Name gn q3) q4] scope [] [] f fd)
    (S : FnScope ["self", fn, gn] ["self", fn, gn] scope)
    (v1 : scope.names.lookup ("self" : Str) = some NameKind.local) (v2 : scope.names.lookup fn = some NameKind.local) (v3 : scope.names.lookup gn = some NameKind.local)
    (d1 : (fn == ("__debug__" : Str)) = false) (d2 : (fn == ("__classdict__" : Str)) = false) (d3 : (gn == ("__debug__" : Str)) = false) (d4 : (gn == ("__classdict__" : Str)) = false)
    (T : ErrC K C) (hno : PySem.W.findIn K (.ref C) fn = some none) (hno2 : PySem.W.findIn K (.ref C) gn = some none) : FnOk P w K mg base CX0 1 f fd ["self", fn, gn] (spErr C [fn, gn]) := by
  refine F.ok S (fun vs H Q E h => ?_) (fun cdv A outer s H vs Q E hr h => ?_)
  · obtain ⟨a, ws, rfl, hl, _⟩ := h
    rw [List.length_cons, hl] <;> rfl
  · obtain ⟨a, ws, rfl, hl, ha, k⟩ := h
    obtain ⟨y, z, rfl⟩ : ∃ y z, ws = [y, z] := by
      match ws, hl with
      | [y, z], _ => exact ⟨y, z, rfl⟩
    refine ⟨_, PSs.nox (pss_cons (ps_put (pe_var (i := 0) rfl (.inl v1)) (pe_var (i := 1) rfl (.inl v2) d1 d2)) (pss_one (ps_put (pe_var (i := 0) rfl (.inl v1)) (pe_var (i := 2) rfl (.inl v3) d3 d4)))), ?_⟩
    refine ⟨_, rfl, _, rfl, a, C, rfl, T, hno, .inl ⟨ha, fun dx nd ne => ?_⟩⟩
    have e1 : upd (upd H dx (exd dx [(fn, y)])) a (exo a C (some dx)) dx = some (exd dx [(fn, y)]) := by
      rw [upd_ne ne, upd_same]
    refine ⟨_, rfl, _, rfl, a, C, rfl, T, hno2, .inr ⟨dx, _, upd_same, e1, by show 1 ≤ 900; decide, ?_⟩⟩
    refine k dx _ nd ne ?_ ?_ fun b h1 h2 => ?_
    · rw [upd_same]
      rfl
    · rw [upd_ne (Ne.symm ne), upd_same]
    · rw [upd_ne h2, upd_ne h1, upd_ne h2]
end
theorem Same.new {H : Hp} {p : Addr} {o : HO} (h : H p = none) : Same H (upd H p o) := fun b u e => by
  rw [upd_ne (ne_of_none e h)]
  exact e
/-! ### ways joined -/
theorem tchainC {f g : Int → Int → Bool} {c i j : Int} {ta tb : TE} {σ : St} {H : Hp} {Q : VK} (ha : Val ta σ H (.int i)) (hb : Val tb σ H (.int j)) (h : Q (.bl (f i j && g j c)) H) :
    tChain (rI0 fun i j => .bl (f i j)) (rI0 fun i j => .bl (g i j)) ta tb (tC (.int c)) σ H Q := by
  refine ha _ (hb _ ⟨i, j, rfl, rfl, f i j, rfl, ?_⟩)
  cases e : f i j with
  | true =>
    rw [e] at h
    exact iteT ⟨j, c, rfl, rfl, h⟩
  | false =>
    rw [e] at h
    exact iteF h
theorem iteF' {c : Bool} {A B : Prop} (hc : c = false) (h : B) : if c = true then A else B := by
  rw [hc]
  exact iteF h
theorem iteT' {c : Bool} {A B : Prop} (hc : c = true) (h : A) : if c = true then A else B := by
  rw [hc]
  exact iteT h
/-! ### an own error by the name of its class -/
structure ErrDef (P : Program) (w : World) (K : PySem.W.Frag) (mg : Str → Option Value) (base : Heap) (CX : CXT) (k : Nat) (x : Str) (C : Addr) (ps fns : List Str) : Prop where
  ex : ∃ (fI : Addr) (fd : FuncData), mg x = some (.ref C) ∧ ErrC K C ∧ PySem.W.findIn K (.ref C) "__init__" = some (some (.ref fI)) ∧ PySem.W.typeIn K (.ref fI) = some (.type "function") ∧
    Binds K fd ps [] ∧ (∀ (s : Shared) (e : Value) (ws : List Value), K.In s.heap → ws.length = fns.length → BindsTo s fd ⟨[e], fns.reverse.zip ws⟩ (ps.zip (e :: ws.reverse))) ∧
    FnOk P w K mg base CX k fI fd ps (spErr C fns) ∧ fns.length ≤ 1000 ∧ ps.length = fns.length + 1
section
variable {X : Cx} {CX : CXT} {k : Nat} {C : Addr} {ps fns : List Str} {x : Str} {p pos : Pos} {e : Expr} {es : List Expr} {ta : TA}
theorem pe_err (c : ErrDef X.prog X.w X.K X.mg X.base CX k x C ps fns) (hr : Room (k + 1) X.A) (hg : Gl X x) (hx : Passes CX X E0) (ha : PA X (e :: es) ta)
    (hdb : (x == ("__debug__" : Str)) = false := by decide) (he : starEach (e :: es) X.env = (false, eval e X.env) :: starEach es X.env := by rfl)
    (hpl : (backTo pos (starEach es X.env)).any (·.1) = false := by rfl) : PE X (.Call (.Name x p) (e :: es) [] pos) (tNew C fns ta) := by
  obtain ⟨fI, fd, hm, T, iC, tI, hb, _, F, few, hp⟩ := c.ex
  exact pe_new (CX := CX) (k := k) (fI := fI) (fd := fd) (ps := ps) ⟨T, iC, tI, F, few⟩ hr hg hm hb hp hx ha hdb he hpl
/-- the keywords in turned order -/
theorem pe_errK {kws : List Keyword} {tk : TA} (c : ErrDef X.prog X.w X.K X.mg X.base CX k x C ps fns) (hr : Room (k + 1) X.A) (hg : Gl X x) (hx : Passes CX X E0)
    (hkw : PK X kws tk) (hall : (backToKw pos (keywordEach kws X.env)).all (·.1.isSome) = true := by rfl) (hks : (backToKw pos (keywordEach kws X.env)).filterMap (·.1) = fns.reverse := by rfl)
    (hdb : (x == ("__debug__" : Str)) = false := by decide)
    (hpl : ((backTo pos (starEach [] X.env)).any (·.1) || (backToKw pos (keywordEach kws X.env)).any (·.1.isNone)) = false := by rfl) :
    PE X (.Call (.Name x p) [] kws pos) (tNew C fns fun σ H Q => tk σ H fun zs H1 => zs.length = fns.length ∧ Q zs.reverse H1) := by
  obtain ⟨fI, fd, hm, T, iC, tI, _, hb, F, few, hp⟩ := c.ex
  exact pe_newK (CX := CX) (k := k) (fI := fI) (fd := fd) (ps := ps) (ks := fns.reverse) (g := List.reverse) ⟨T, iC, tI, F, few⟩ hr hg hm hb (fun r _ => r.reverse) (fun zs h => by rw [List.length_reverse, h]) hx hkw hall hks hdb hpl
end
theorem nx_ {t b c : St → Hp → Prop} {r : VK} {σ : St} {H : Hp} (h : t σ H) : ({ nx := t, rt := r, bk := b, ct := c } : Ends).nx σ H := h
end L2

set_option Elab.async false
set_option maxRecDepth 100000
set_option maxHeartbeats 4000000
set_option linter.all false
/-! words of our own: a def of a class called off the class; a class made with defaults; {..} of two clauses over what is empty -/
namespace L2
open PySem PySem.Spec PyProof.Rows
/-- the def m of the class x, called as x.m(..) -/
structure CFun (P : Program) (w : World) (K : PySem.W.Frag) (mg : Str → Option Value) (base : Heap) (CX : CXT) (k : Nat) (x : Str) (C : Addr) (m : Str) (ps : List Str) (sp : Sp) : Prop where
  ex : ∃ (f : Addr) (fd : FuncData) (mc : Value), mg x = some (.ref C) ∧ ClX.CRead K C mc ∧ PySem.W.findCls K (.ref C) mc m = some (.val (.ref f)) ∧ PySem.W.keepIn K (.ref f) = true ∧ Binds K fd ps [] ∧ FnOk P w K mg base CX k f fd ps sp
/-- the class x, made with the defaults dvs -/
structure MkA (P : Program) (w : World) (K : PySem.W.Frag) (mg : Str → Option Value) (base : Heap) (CX : CXT) (k : Nat) (x : Str) (C : Addr) (dvs : List V) (ps : List Str) (sp : Sp) : Prop where
  ex : ∃ (f : Addr) (fd : FuncData) (ds : List Value), mg x = some (.ref C) ∧ Mk K C f ∧ Binds K fd ps ds ∧ Vals dvs ds ∧ FnOk P w K mg base CX k f fd ps sp
section
variable {X : Cx} {CX : CXT} {k : Nat} {C : Addr} {ps : List Str} {sp : Sp} {E : XK} {x m : Str} {dvs : List V} {e : Expr} {es : List Expr} {t : TA} {p p1 p2 pos : Pos}
theorem pe_cfun {pl : Sem Bool} (c : CFun X.prog X.w X.K X.mg X.base CX k x C m ps sp) (hr : Room k X.A) (hg : Gl X x) (hx : Passes CX X E) (ha : PA X (e :: es) t)
    (hdb : (x == ("__debug__" : Str)) = false := by decide) (he : starEach (e :: es) X.env = (false, eval e X.env) :: starEach es X.env := by rfl)
    (hpl : (backTo pos (starEach es X.env)).any (·.1) = false := by rfl)
    (ht : eval (.Call (.Attribute (.Name x p1) m p2) (e :: es) [] pos) X.env = (do
      let cls ← eval (.Name x p1) X.env
      standAt p2.atName
      let (g, before) ← holding [cls] (getMethod cls m pl)
      callWith pos g before (backTo pos (starEach (e :: es) X.env)) (backToKw pos (keywordEach [] X.env))) := by rfl) :
    PE X (.Call (.Attribute (.Name x p1) m p2) (e :: es) [] pos) (tCall sp [] E t) := by
  obtain ⟨f, fd, mc, hm, cr, hf, hk, hb, F⟩ := c.ex
  refine ⟨fun pins s σ H Q I h => PySem.W.methodCall_KW (ld_glob I hg hm ?_ hdb) ht⟩
  refine PySem.W.method_cls I.kIn cr.ga (PySem.W.cls_value I.kIn cr.rd hf (handed_of (v := .ref f) rfl) ?_)
  have I2 := I.tok (s.toks + 1)
  exact PySem.W.callWith_K (h₀ := X.base) I.ok.mod.kin hk (thn (ha.run pos pins _ σ H _ I2 h) fun us s1 ⟨vs, H1, I1, r, q⟩ => ⟨I1.kIn, run_fn F hr hb .nil hx I1 r q⟩) he hpl
theorem pe_mkA (c : MkA X.prog X.w X.K X.mg X.base CX k x C dvs ps sp) (hr : Room (k + 1) X.A) (hg : Gl X x) (hx : Passes CX X E) (ha : PA X (e :: es) t)
    (hdb : (x == ("__debug__" : Str)) = false := by decide) (he : starEach (e :: es) X.env = (false, eval e X.env) :: starEach es X.env := by rfl)
    (hpl : (backTo pos (starEach es X.env)).any (·.1) = false := by rfl) : PE X (.Call (.Name x p) (e :: es) [] pos) (tMake C sp dvs E t) := by
  obtain ⟨f, fd, ds, hm, M, hb, hd, F⟩ := c.ex
  exact pe_make M F hr hg hm hb hd hx ha hdb he hpl
theorem pe_never {e : Expr} : PE X e (fun _ _ _ => False) := ⟨fun _ _ _ _ _ _ h => h.elim⟩
theorem pt_never {e : Expr} : PT X e (fun _ _ _ => False) := ⟨fun _ _ _ _ _ _ h => h.elim⟩
end
end L2

set_option Elab.async false
set_option maxRecDepth 100000
set_option maxHeartbeats 4000000
set_option linter.all false
namespace L2
open PySem PySem.Spec PyProof.Rows
section
variable {prog : Program} {w : World} {A : Around} {R : Result → Shared → Prop} {s : Shared} {env : Env}
theorem turn_first (elt t0 i0 t1 i1 : Expr) (sc : Scope) (pos : Pos) (it acc : Value) (env : Env) : ∃ k : Value → Sem Fin,
    compTurn (.SetComp elt [⟨t0, i0, [], 0⟩, ⟨t1, i1, [], 0⟩] sc pos) 0 it acc env = (do
      standAt i0.pos
      match ← pyNext it with
      | none => pure (.done .next)
      | some v => k v) := ⟨_, rfl⟩
/-- the first clause has nothing to go over -/
theorem loop_none {elt t0 i0 t1 i1 : Expr} {sc : Scope} {pos : Pos} {it acc : Value}
    (h : wpAny (model prog w) A (pyNext it) (fun r s' => r = none ∧ R (.ok .next) s') (fun _ _ => False) s) :
    codeAny (model prog w) A (.compLoop (.SetComp elt [⟨t0, i0, [], 0⟩, ⟨t1, i1, [], 0⟩] sc pos) 0 it acc env) R s := by
  obtain ⟨k, e⟩ := turn_first elt t0 i0 t1 i1 sc pos it acc env
  refine codeAny_loop rfl (fun _ s' => s' = s) (fun n s' hs => ?_) 0 rfl
  subst hs
  show wpAny _ A ((compTurn (.SetComp elt [⟨t0, i0, [], 0⟩, ⟨t1, i1, [], 0⟩] sc pos) 0 it acc env).onRaise (fun x => do noteFrame x env; theTreesLotGoes x)) _ _ _
  refine wpAny_noted ?_
  rw [e]
  refine wpAny_bind (wpAny_standAt (wpAny_bind (wpAny_mono h (fun r s1 hr => ?_) fun _ _ z => z.elim)))
  obtain ⟨rfl, hr⟩ := hr
  exact wpAny_pure hr
end
end L2

set_option Elab.async false
set_option maxRecDepth 100000
set_option maxHeartbeats 4000000
set_option linter.all false
namespace L2
open PySem PySem.Spec PyProof.Rows
section
variable {X : Cx}
/-- {e for a in xs for b in ys}, xs with nothing in it: the new set D is empty -/
def tScNil (w : World) (wi : TI) : TE := fun σ H Q => wi σ H fun J H1 => ∀ D, H1 D = none → J.stop 0 (upd H1 D (SetO w D (fun _ => false) 0)) ∧ Q (.ref D) (upd H1 D (SetO w D (fun _ => false) 0))
theorem pe_scNil {elt t0 i0 t1 i1 : Expr} {sc : Scope} {own : List (PySem.Str × Nat)} {pos : Pos} {wi : TI} (calm : X.calm = true) (nd : X.N.Nodup) (hi : PI X t0 i0 wi) (ok : BlkOk X.N X.env.scope sc own)
    (fold : ∀ x, foldedSetIterable i0 X.env x = pure x := by intro _; rfl) :
    PE X (.SetComp elt [⟨t0, i0, [], 0⟩, ⟨t1, i1, [], 0⟩] sc pos) (tScNil X.w wi) := by
  refine ⟨fun pins s σ H Q I h => ?_⟩
  rw [PpSet.eval_SetComp]
  have frees : ∀ y ∈ sc.names, y.2 = .free → ∃ c, X.env.cells.lookup y.1 = some c := fun y hy e =>
    (ok.free y hy e).elim (fun z => I.ok.has _ (.inl z)) fun z => I.ok.has _ (.inr z)
  refine wpAny_comprehension_free (use := none) rfl fold (closure_ok frees) ok.kind (fun y hy e => by rw [ok.uniq y hy, e]) (thn (hi.run pins s σ H _ I h) fun xv sA hx => thn hx fun itv sB hB => ?_)
  obtain ⟨it, fp, tn, J, HB, rfl, IB, T, stB, fB, q⟩ := hB
  refine PpSet.newSet_ok (newEnv_comp ?_)
  obtain ⟨q1, q2⟩ := q sB.heap.objs.size (IB.hok.fresh (Nat.le_refl _))
  generalize eD : sB.heap.objs.size = D at q1 q2
  -- the set is laid
  generalize eC : ({ sB with heap := sB.heap.push { cls := .type "set", dict := none, data := .set #[] 0 (.fresh 0 0 (!X.w.params.followText "set-order")) } } : Shared) = sC
  have hC : sC.heap = sB.heap.push { cls := .type "set", dict := none, data := .set #[] 0 (.fresh 0 0 (!X.w.params.followText "set-order")) } := by rw [← eC]
  generalize eH : upd HB D (SetO X.w D (fun _ => false) 0) = HC at q1 q2
  have IC : Inv X pins σ HC sC := by
    rw [← eC, ← eH]
    refine IB.laid (t' := sB.toks) (fun b o e => Heap.get?_push_of_some _ e) (Nat.le_of_eq eD) (setO_new ?_)
    rw [← eD]
    exact (setR_new_at (ns := []) (Heap.get?_push_size _ rfl)).congr fun k => by simp
  have young : ∀ b ∈ fp, b < sB.heap.objs.size := fun b hb => (T.obj _ _ stB b hb).elim fun o e => Heap.lt_size e.1
  have fC : ∀ b ∈ fp, FpOk X pins HC b ∧ b < sC.heap.objs.size := fun b hb => by
    have lt := young b hb
    have nb : HC b = none := by
      rw [← eH, upd_ne (by rw [← eD]; exact Nat.ne_of_lt lt)]
      exact (fB b hb).1
    exact ⟨⟨nb, (fB b hb).2⟩, by rw [hC, Heap.size_push]; exact Nat.lt_succ_of_lt lt⟩
  have stC : tn 0 sC.heap := T.keep _ _ _ stB fun b _ o e => by rw [hC]; exact Heap.get?_push_of_some _ e
  -- the block
  have IE := block_start IC ok nd fC
  generalize eN : compEnvC sc (cellsFrom (sC.heap.objs.size + 1) sc.names (cloFrom X.env.cells sc.names [])) sC.heap.objs.size X.env = ce at IE
  have eL : ce.locals = sC.heap.objs.size := by rw [← eN]; rfl
  generalize eE : ({ sC with heap := pushCells (sC.heap.push { cls := .type "dict", data := .dict #[] }) sc.names } : Shared) = sE at IE
  have stE : tn 0 sE.heap := T.keep _ _ _ stC fun b _ o e => by rw [← eE]; exact pushCells_keeps _ _ _ _ (Heap.get?_push_of_some _ e)
  have stat : ∀ b ∈ fp, FpOk (X.blk sC HC sc ce fp) [] HC b := fun b hb =>
    ⟨(fC b hb).1.1, (IE.ok.exf b hb).1, IE.ok.exfs b hb, .inl hb, fun x c e => (IE.ok.exf b hb).2 x c e, fun p hp => by simp at hp⟩
  have back : ∀ s', Inv (X.blk sC HC sc ce fp) [] (wipe σ (own.map (·.2))) HC s' → compPost (model X.prog X.w) X.A X.xe none (EP X pins σ Q) (.ref D) sC.heap.objs.size (.ok .next) s' := fun s' IF => by
    have IG : Inv X pins σ HC s' := IC.call' (ch := fp) IF.os IF.base IF.hok IF.bare fun b hb => ⟨(fC b hb).1.2.2.2.1, (fC b hb).1.2.1, (fC b hb).1.2.2.2.2.1, (fC b hb).1.2.2.2.2.2⟩
    have nC : HC sC.heap.objs.size = none := by
      have z : HC ce.locals = none := IF.free
      rwa [eL] at z
    obtain ⟨m, hn, _⟩ := IF.loc
    have hn : s'.heap.Ns ce.locals m := hn
    rw [eL] at hn
    obtain ⟨f0, f1, f2, f3, f4, f5⟩ := IC.fpOk (Nat.le_refl _) nC
    exact ⟨m, hn, fun h'' sb => ⟨.ref D, HC, IG.turned (t' := s'.toks) (fun b o hb e => (sb.2 b hb).trans e) f0 f1 f3 f4 f5, rfl, q2⟩⟩
  have loop : codeAny (model X.prog X.w) X.A (.compLoop (.SetComp elt [⟨t0, i0, [], 0⟩, ⟨t1, i1, [], 0⟩] sc pos) 0 (.ref it) (.ref D) ce) (compPost (model X.prog X.w) X.A X.xe none (EP X pins σ Q) (.ref D) sC.heap.objs.size) sE :=
    loop_none (thnF (T.done (X.blk sC HC sc ce fp) rfl rfl rfl calm 0 [] sE _ HC (fun _ _ => False) IE stat stE q1) fun r s' hr => ⟨hr.1, back s' hr.2⟩)
  have fin := PpSet.codeAny_compStart_set loop (T.self X.A 0 _ _ _ stE loop)
  rw [← eN] at fin
  exact fin
end
end L2

set_option Elab.async false
set_option maxRecDepth 100000
set_option maxHeartbeats 4000000
set_option linter.all false
/-! tokens and what is gone over of a history: the mathematics of k13 -/
namespace K13
open PySem PySem.Spec PyProof.Rows L2
inductive Tok where
  | begin (w : Str) | answer (n : Nat) (w : Str) | rang (n : Nat) | signal (a b : Str)
  | asked (w : Str) | set | dropped (n : Nat) | noted (w : Str) | marked (w : Str) | ended (w : Str) | anew (w : Str)
namespace Tok
def head : Tok → Str
  | .begin _ => "begin" | .answer _ _ => "answer" | .rang _ => "rang" | .signal _ _ => "signal" | .asked _ => "asked" | .set => "set"
  | .dropped _ => "dropped" | .noted _ => "noted" | .marked _ => "marked" | .ended _ => "ended" | .anew _ => "anew"
def rest : Tok → List V
  | .begin w => [.str w] | .answer n w => [.int n, .str w] | .rang n => [.int n] | .signal a b => [.str a, .str b] | .asked w => [.str w] | .set => []
  | .dropped n => [.int n] | .noted w => [.str w] | .marked w => [.str w] | .ended w => [.str w] | .anew w => [.str w]
def words : Tok → List Str
  | .begin w => [w] | .answer _ w => [w] | .rang _ => [] | .signal a b => [a, b] | .asked w => [w] | .set => []
  | .dropped _ => [] | .noted w => [w] | .marked w => [w] | .ended w => [w] | .anew w => [w]
def vals (t : Tok) : List V := .str t.head :: t.rest
def outer : Tok → Bool
  | .begin _ => true | .answer _ _ => true | .rang _ => true | .signal _ _ => true | _ => false
def num? : Tok → Option Nat
  | .answer n _ => some n | .rang n => some n | .dropped n => some n | _ => none
def withN : Tok → Nat → Tok
  | .answer _ w, n => .answer n w | .rang _, n => .rang n | .dropped _, n => .dropped n | t, _ => t
def start? : Tok → Option Bool
  | .asked _ => some true | .set => some false | _ => none
def last : Tok → Bool
  | .ended _ => true | .anew _ => true | _ => false
def isBegin : Tok → Bool
  | .begin _ => true | _ => false
end Tok
structure S where
  run : List Nat
  kinds : List Bool
  ths : List Nat
  len : Nat
  fin : Bool
def s0 : S := ⟨[], [], [], 0, false⟩
def kindOk (s : S) : Tok → Bool
  | .answer n _ => s.run.contains n && s.kinds[n]? == some true
  | .rang n => s.run.contains n && s.kinds[n]? == some false
  | .dropped n => s.run.contains n
  | _ => true
def may (s : S) (t : Tok) : Bool := !s.fin && (t.isBegin == (s.len == 0) && kindOk s t)
def bt (s : S) : S := { s with ths := s.run }
def ths0 (s : S) (t : Tok) : List Nat := if t.outer then s.run else s.ths
def go (s : S) (t : Tok) : S :=
  match t.start? with
  | some k => ⟨s.run ++ [s.kinds.length], s.kinds ++ [k], ths0 s t ++ [s.kinds.length], s.len + 1, t.last⟩
  | none => match t.num? with
    | some n => ⟨s.run.erase n, s.kinds, ths0 s t, s.len + 1, t.last⟩
    | none => ⟨s.run, s.kinds, ths0 s t, s.len + 1, t.last⟩
def age (s : S) (t : Tok) : Tok := match t.num? with
  | some n => t.withN ((ths0 s t).idxOf n)
  | none => t
def byNum (s : S) (t : Tok) : Option Tok := match t.num? with
  | some a => (s.ths[a]?).map t.withN
  | none => some t
/-- a history that may be gone over -/
def valid (s : S) : List Tok → Bool
  | [] => true
  | t :: r => may s t && valid (go s t) r
def goAll (s : S) : List Tok → S
  | [] => s
  | t :: r => goAll (go s t) r
def ageAll (s : S) : List Tok → List Tok
  | [] => []
  | t :: r => age s t :: ageAll (go s t) r
/-- the turns of a flat list -/
def cutOn (acc : List (List Tok)) (t : Tok) : List (List Tok) := if t.outer then acc ++ [[t]] else acc.dropLast ++ [(acc.getLastD []) ++ [t]]
def cutAll (ts : List Tok) : List (List Tok) := ts.foldl cutOn []
/-- what is read by age -/
def wToks (first : Bool) (s : S) (h : List Tok) : List (Option Tok) → Option (S × List Tok)
  | [] => some (s, h)
  | none :: _ => none
  | some t :: r => if t.outer != first then none else match byNum s t with
    | none => none
    | some u => if may s u then wToks false (go s u) (h ++ [u]) r else none
def wWalk (strict : Bool) (s : S) (h : List Tok) : List (Option (List (Option Tok))) → Option (List Tok)
  | [] => some h
  | none :: _ => none
  | some turn :: r => if strict && turn.isEmpty then none else match wToks true (bt s) h turn with
    | none => none
    | some (s', h') => wWalk strict s' h' r
def pBack (ts : List (Option (List (Option Tok)))) : Option (List Tok) := if ts.isEmpty then none else wWalk true s0 [] ts
def lift (ts : List (List Tok)) : List (Option (List (Option Tok))) := ts.map fun t => some (t.map some)
def lBack (ts : List (List Tok)) : Option (List Tok) := match wWalk false s0 [] (lift ts) with
  | none => none
  | some h => if ts.any List.isEmpty || h.isEmpty then none else some h
/-! ### both ways to go back agree -/
theorem wToks_len {first : Bool} : ∀ {ts : List (Option Tok)} {first : Bool} {s s' : S} {h h' : List Tok}, wToks first s h ts = some (s', h') → h'.length = h.length + ts.length
  | [], _, _, _, _, _, e => by
    simp only [wToks, Option.some.injEq, Prod.mk.injEq] at e
    rw [← e.2]; rfl
  | none :: _, _, _, _, _, _, e => by simp [wToks] at e
  | some t :: r, first, s, s', h, h', e => by
    simp only [wToks] at e
    split at e
    · cases e
    · split at e
      · cases e
      · split at e
        · have := wToks_len (first := false) e
          simp only [List.length_append, List.length_cons, List.length_nil] at this ⊢
          omega
        · cases e
theorem walk_strict {ts : List (List Tok)} (he : ts.any List.isEmpty = false) : ∀ (s : S) (h : List Tok), wWalk true s h (lift ts) = wWalk false s h (lift ts) := by
  induction ts with
  | nil => intros; rfl
  | cons t r ih =>
    intro s h
    simp only [List.any_cons, Bool.or_eq_false_iff] at he
    have e1 : (t.map some).isEmpty = false := by
      cases t with
      | nil => simp at he
      | cons a b => rfl
    simp only [lift, List.map_cons, wWalk, e1, Bool.and_false, Bool.false_eq_true, if_false]
    split
    · rfl
    · exact ih he.2 _ _
theorem walk_empty {ts : List (List Tok)} (he : ts.any List.isEmpty = true) : ∀ (s : S) (h : List Tok), wWalk true s h (lift ts) = none := by
  induction ts with
  | nil => simp at he
  | cons t r ih =>
    intro s h
    cases t with
    | nil => rfl
    | cons a b =>
      have he' : r.any List.isEmpty = true := by simpa using he
      simp only [lift, List.map_cons, wWalk, List.isEmpty_cons, Bool.and_false, Bool.false_eq_true, if_false]
      split
      · rfl
      · exact ih he' _ _
theorem walk_len : ∀ {ts : List (List Tok)} {b : Bool} {s : S} {h h' : List Tok}, wWalk b s h (lift ts) = some h' → h'.length = h.length + (ts.map List.length).sum
  | [], _, _, _, _, e => by
    simp only [lift, List.map_nil, wWalk, Option.some.injEq] at e
    rw [← e]; rfl
  | t :: r, b, s, h, h', e => by
    simp only [lift, List.map_cons, wWalk] at e
    split at e
    · cases e
    · split at e
      · cases e
      · rename_i s2 h2 q
        have l1 := wToks_len (first := true) q
        have l2 := walk_len (ts := r) e
        simp only [List.length_map] at l1
        simp only [List.map_cons, List.sum_cons]
        omega
theorem pBack_lift (ts : List (List Tok)) : pBack (lift ts) = lBack ts := by
  unfold pBack lBack
  cases ts with
  | nil => rfl
  | cons t r =>
    have e0 : (lift (t :: r)).isEmpty = false := rfl
    rw [e0]
    simp only [Bool.false_eq_true, if_false]
    cases he : (t :: r).any List.isEmpty with
    | true =>
      rw [walk_empty he]
      split <;> simp
    | false =>
      rw [walk_strict he]
      cases q : wWalk false s0 [] (lift (t :: r)) with
      | none => rfl
      | some h =>
        have l := walk_len q
        have : h.isEmpty = false := by
          cases h with
          | nil =>
            cases t with
            | nil => simp at he
            | cons a b =>
              simp only [List.length_nil, List.map_cons, List.sum_cons, List.length_cons] at l
              omega
          | cons a b => rfl
        simp [this]

/-! ### what is told by age is read back -/
def cutR : List Tok → List Tok × List (List Tok)
  | [] => ([], [])
  | t :: r => if t.outer then ([], (t :: (cutR r).1) :: (cutR r).2) else (t :: (cutR r).1, (cutR r).2)
theorem foldl_cut : ∀ (ts : List Tok) (acc : List (List Tok)) (l : List Tok), ts.foldl cutOn (acc ++ [l]) = acc ++ [l ++ (cutR ts).1] ++ (cutR ts).2
  | [], acc, l => by simp [cutR]
  | t :: r, acc, l => by
    rw [List.foldl_cons]
    cases e : t.outer with
    | true =>
      have e1 : cutOn (acc ++ [l]) t = (acc ++ [l]) ++ [[t]] := by simp [cutOn, e]
      rw [e1, foldl_cut r]
      simp [cutR, e]
    | false =>
      have e1 : cutOn (acc ++ [l]) t = acc ++ [l ++ [t]] := by simp [cutOn, e]
      rw [e1, foldl_cut r]
      simp [cutR, e]
theorem cutAll_R {t : Tok} {r : List Tok} (e : t.outer = true) : cutAll (t :: r) = (cutR (t :: r)).2 := by
  have e1 : cutOn [] t = [] ++ [[t]] := by simp [cutOn, e]
  unfold cutAll
  rw [List.foldl_cons, e1, foldl_cut]
  simp [cutR, e]
/-- a state that can be: the open things are among those with an age -/
structure Good (s : S) : Prop where
  sub : ∀ n ∈ s.run, n ∈ s.ths
  srt : s.ths.Pairwise (· < ·)
  srr : s.run.Pairwise (· < ·)
  few : ∀ n ∈ s.ths, n < s.kinds.length
theorem good0 : Good s0 := ⟨by simp [s0], by simp [s0], by simp [s0], by simp [s0]⟩
theorem Good.few' {s : S} (g : Good s) : ∀ n ∈ s.run, n < s.kinds.length := fun n h => g.few n (g.sub n h)
theorem Good.bt {s : S} (g : Good s) : Good (bt s) := ⟨fun n h => h, g.srr, g.srr, g.few'⟩
theorem Good.ths0 {s : S} (g : Good s) (t : Tok) : (ths0 s t).Pairwise (· < ·) ∧ (∀ n ∈ s.run, n ∈ ths0 s t) ∧ ∀ n ∈ ths0 s t, n < s.kinds.length := by
  unfold K13.ths0
  split
  · exact ⟨g.srr, fun n h => h, g.few'⟩
  · exact ⟨g.srt, g.sub, g.few⟩
theorem Good.go {s : S} (g : Good s) (t : Tok) : Good (go s t) := by
  obtain ⟨h1, h2, h3⟩ := g.ths0 t
  unfold K13.go
  split
  · refine ⟨fun n h => ?_, ?_, ?_, fun n h => ?_⟩
    · rcases List.mem_append.mp h with h | h
      · exact List.mem_append_left _ (h2 n h)
      · exact List.mem_append_right _ h
    · refine List.pairwise_append.mpr ⟨h1, by simp, fun a ha b hb => ?_⟩
      rw [List.mem_singleton.mp hb]
      exact h3 a ha
    · refine List.pairwise_append.mpr ⟨g.srr, by simp, fun a ha b hb => ?_⟩
      rw [List.mem_singleton.mp hb]
      exact g.few' a ha
    · show n < (s.kinds ++ [_]).length
      rw [List.length_append]
      rcases List.mem_append.mp h with h | h
      · have := h3 n h
        simp; omega
      · rw [List.mem_singleton.mp h]
        simp
  · split
    · exact ⟨fun n h => h2 n (List.mem_of_mem_erase h), h1, g.srr.sublist List.erase_sublist, h3⟩
    · exact ⟨h2, h1, g.srr, h3⟩
theorem withN_num {t : Tok} {n : Nat} (e : t.num? = some n) (a : Nat) : (t.withN a).num? = some a ∧ (t.withN a).withN n = t ∧ (t.withN a).outer = t.outer := by
  cases t <;> simp_all [Tok.num?, Tok.withN, Tok.outer]
theorem age_outer (s : S) (t : Tok) : (age s t).outer = t.outer := by
  unfold age
  split
  · rename_i n e
    exact (withN_num e _).2.2
  · rfl
theorem kind_run {s : S} {t : Tok} {n : Nat} (e : t.num? = some n) (k : kindOk s t = true) : n ∈ s.run := by
  cases t <;> simp_all [Tok.num?, kindOk]
theorem may_kind {s : S} {t : Tok} (h : may s t = true) : kindOk s t = true ∧ s.fin = false ∧ t.isBegin = (s.len == 0) := by
  simp only [may, Bool.and_eq_true, Bool.not_eq_true', beq_iff_eq] at h
  exact ⟨h.2.2, h.1, h.2.1⟩
theorem get_idx {l : List Nat} {n : Nat} (h : n ∈ l) : l[l.idxOf n]? = some n := by
  have hl := List.idxOf_lt_length_of_mem h
  rw [List.getElem?_eq_getElem hl, List.getElem_idxOf hl]
theorem byNum_age {s : S} {t : Tok} (g : Good s) (m : may s t = true) (ht : ths0 s t = s.ths) : byNum s (age s t) = some t := by
  unfold age
  split
  · rename_i n e
    obtain ⟨h1, h2, _⟩ := withN_num e ((ths0 s t).idxOf n)
    unfold byNum
    rw [h1]
    show (s.ths[(ths0 s t).idxOf n]?).map _ = _
    rw [ht, get_idx (g.sub n (kind_run e (may_kind m).1)), Option.map_some]
    rw [ht] at h2
    rw [h2]
  · rename_i e
    unfold byNum
    rw [e]
theorem may_bt (s : S) (t : Tok) : may (bt s) t = may s t := by
  cases t <;> rfl
theorem go_bt {s : S} {t : Tok} (e : t.outer = true) : go (bt s) t = go s t := by
  unfold go ths0 bt
  simp only [e, if_true]
theorem back_age : ∀ (h : List Tok) (s : S) (hh : List Tok), Good s → valid s h = true →
    ∃ s' h', wToks false s hh ((cutR (ageAll s h)).1.map some) = some (s', h') ∧ wWalk true s' h' (lift (cutR (ageAll s h)).2) = some (hh ++ h)
  | [], s, hh, _, _ => ⟨s, hh, rfl, by simp [ageAll, cutR, lift, wWalk]⟩
  | t :: r, s, hh, g, v => by
    simp only [valid, Bool.and_eq_true] at v
    obtain ⟨m, v⟩ := v
    obtain ⟨s', h', e1, e2⟩ := back_age r (go s t) (hh ++ [t]) (g.go t) v
    have eo := age_outer s t
    cases o : t.outer with
    | false =>
      rw [o] at eo
      have ht : ths0 s t = s.ths := by simp [ths0, o]
      refine ⟨s', h', ?_, ?_⟩
      · simp only [ageAll, cutR, eo, Bool.false_eq_true, if_false, List.map_cons, wToks, byNum_age g m ht, m, if_true, bne_self_eq_false]
        exact e1
      · simp only [ageAll, cutR, eo, Bool.false_eq_true, if_false]
        rw [e2]
        simp
    | true =>
      rw [o] at eo
      have ht : ths0 (bt s) t = (bt s).ths := by simp [ths0, o, bt]
      have ea : age s t = age (bt s) t := by
        unfold age ths0
        simp [o, bt]
      refine ⟨s, hh, ?_, ?_⟩
      · simp only [ageAll, cutR, eo, if_true, List.map_nil, wToks]
      · simp only [ageAll, cutR, eo, if_true, lift, List.map_cons, wWalk, List.isEmpty_cons, Bool.and_false, Bool.false_eq_true, if_false, wToks, bne_self_eq_false]
        rw [ea, byNum_age g.bt (by rw [may_bt]; exact m) ht]
        simp only [may_bt, m, if_true, go_bt o]
        rw [e1]
        simp only [lift] at e2
        exact e2.trans (by simp)
def ageTurns (s : S) : List (List Tok) → List (List Tok)
  | [] => []
  | t :: r => ageAll s t :: ageTurns (goAll s t) r
theorem age_cut : ∀ (h : List Tok) (s : S), cutR (ageAll s h) = (ageAll s (cutR h).1, ageTurns (goAll s (cutR h).1) (cutR h).2)
  | [], s => rfl
  | t :: r, s => by
    have eo := age_outer s t
    have ih := age_cut r (go s t)
    cases o : t.outer with
    | false =>
      rw [o] at eo
      simp only [ageAll, cutR, eo, o, Bool.false_eq_true, if_false, ih, goAll]
    | true =>
      rw [o] at eo
      simp only [ageAll, cutR, eo, o, if_true, ih, goAll, ageTurns]
theorem begin_outer {t : Tok} {r : List Tok} (v : valid s0 (t :: r) = true) : t.outer = true := by
  simp only [valid, Bool.and_eq_true] at v
  have := (may_kind v.1).2.2
  cases t <;> simp_all [Tok.isBegin, Tok.outer, s0]
theorem round_trip {h : List Tok} (ne : h ≠ []) (v : valid s0 h = true) : pBack (lift (cutAll (ageAll s0 h))) = some h := by
  cases h with
  | nil => exact absurd rfl ne
  | cons t r =>
    have o := begin_outer v
    have eo := age_outer s0 t
    rw [o] at eo
    obtain ⟨s', h', e1, e2⟩ := back_age (t :: r) s0 [] good0 v
    have e3 : cutAll (ageAll s0 (t :: r)) = (cutR (ageAll s0 (t :: r))).2 := cutAll_R (t := age s0 t) eo
    have e4 : (cutR (ageAll s0 (t :: r))).1 = [] := by simp [ageAll, cutR, eo]
    rw [e4] at e1
    simp only [List.map_nil, wToks, Option.some.injEq, Prod.mk.injEq] at e1
    rw [← e1.1, ← e1.2] at e2
    unfold pBack
    rw [e3]
    have e5 : (lift (cutR (ageAll s0 (t :: r))).2).isEmpty = false := by simp [ageAll, cutR, eo, lift]
    rw [e5]
    exact e2
theorem aged_eq {h : List Tok} (ne : h ≠ []) (v : valid s0 h = true) : ageTurns s0 (cutAll h) = cutAll (ageAll s0 h) := by
  cases h with
  | nil => exact absurd rfl ne
  | cons t r =>
    have o := begin_outer v
    have eo := age_outer s0 t
    rw [o] at eo
    have e3 : cutAll (ageAll s0 (t :: r)) = (cutR (ageAll s0 (t :: r))).2 := cutAll_R (t := age s0 t) eo
    rw [e3, age_cut, cutAll_R o]
    have e4 : (cutR (t :: r)).1 = [] := by simp [cutR, o]
    rw [e4]
    rfl
end K13

set_option Elab.async false
set_option maxRecDepth 100000
set_option maxHeartbeats 4000000
set_option linter.all false
namespace L2
open PySem PySem.Spec PyProof.Rows
/-! ### raise C(e, ..), C an own error over LookupError with its own __init__ -/
def tMkE (C : Addr) (fns : List Str) (ta : TA) : St → Hp → XK → Prop := fun σ H Q => ta σ H fun vs H1 => vs.length = fns.length ∧
  ∀ d H', H1 d = none → H' d = some (.xd (fns.zip vs).reverse) → (∀ b, b ≠ d → H' b = H1 b) → Q (.ref C) (some d) H'
section
variable {X : Cx} {CX : CXT} {k : Nat} {C : Addr} {ps fns : List Str} {x : Str} {p pos : Pos} {e : Expr} {es : List Expr} {ta : TA}
theorem pmk_errL (c : ErrDef X.prog X.w X.K X.mg X.base CX k x C ps fns) (hr : Room (k + 1) X.A) (hg : Gl X x) (hx : Passes CX X E0) (ha : PA X (e :: es) ta)
    (hdb : (x == ("__debug__" : Str)) = false := by decide) (he : starEach (e :: es) X.env = (false, eval e X.env) :: starEach es X.env := by rfl)
    (hpl : (backTo pos (starEach es X.env)).any (·.1) = false := by rfl) : PMk X (.Call (.Name x p) (e :: es) [] pos) (tMkE C fns ta) := by
  obtain ⟨fI, fd, hm, T, iC, tI, hb, _, F, few, hp⟩ := c.ex
  intro pins s σ H Q I h
  refine wpAny_Call_Name_kw (ld_glob I hg hm ?_ hdb)
  refine PySem.W.callWith_K (h₀ := X.base) I.ok.mod.kin T.kC (thn (ha.run pos pins s σ H _ I h) fun us s1 ⟨vs, H1, I1, r, hl, q⟩ => ⟨I1.kIn, ?_⟩) he hpl
  have lu : us.length = fns.length := r.length.symm.trans hl
  obtain ⟨nm, N, qn, bs, bm, hdct, sn, sub, ab, col, dd, k0, k1, k2, k3, k5, hC, hT⟩ := PySem.W.excInit_of I1.kIn T.ini
  show wpAny _ _ (call (.ref C) us) _ _ _
  obtain ⟨hp0, g, dr, tk, os⟩ := s1
  have hsz : hp0.objs.size ≤ hp0.objs.size + 1 := Nat.le_succ _
  have hn : H1 (hp0.objs.size + 1) = none := I1.hok.fresh hsz
  have kk : ∀ b o, hp0.get? b = some o → ((hp0.push (PySem.W.kdv_tup us)).push (PySem.HandSPX.excO C hp0.objs.size)).get? b = some o := fun b o z => Heap.get?_push_of_some _ (Heap.get?_push_of_some _ z)
  have hget : ((hp0.push (PySem.W.kdv_tup us)).push (PySem.HandSPX.excO C hp0.objs.size)).get? (hp0.objs.size + 1) = some (PySem.HandSPX.excO C hp0.objs.size) := by heap_get
  have J : Inv X pins σ (upd H1 (hp0.objs.size + 1) (exo (hp0.objs.size + 1) C none)) ⟨(hp0.push (PySem.W.kdv_tup us)).push (PySem.HandSPX.excO C hp0.objs.size), g, dr, tk, os⟩ :=
    I1.laid (t' := tk) kk hsz (exo_ok hget)
  have sp : spErr C fns (.ref (hp0.objs.size + 1) :: vs) (upd H1 (hp0.objs.size + 1) (exo (hp0.objs.size + 1) C none)) (fun v H2 => v = .non ∧ ∃ d, H1 d = none ∧ H2 d = some (exd d (fns.zip vs).reverse) ∧
      H2 (hp0.objs.size + 1) = some (exo (hp0.objs.size + 1) C (some d)) ∧ d ≠ hp0.objs.size + 1 ∧ ∀ b, b ≠ hp0.objs.size + 1 → b ≠ d → H2 b = H1 b) E0 := by
    refine ⟨_, vs, rfl, hl, upd_same, fun dx H' nd ne e1 e2 e3 => ⟨rfl, dx, ?_, e1, e2, ne, fun b h1 h2 => ?_⟩⟩
    · rw [upd_ne ne] at nd
      exact nd
    · rw [e3 b h1 h2, upd_ne h1]
  have r2 : Vals (V.ref (hp0.objs.size + 1) :: vs) (Value.ref (hp0.objs.size + 1) :: us) := .cons rfl r
  have hbb : ∀ s0 : Shared, X.K.In s0.heap → BindsTo s0 fd ⟨Value.ref (hp0.objs.size + 1) :: us, []⟩ (ps.zip (Value.ref (hp0.objs.size + 1) :: us)) := fun s0 k0 => by
    have b := hb s0 (Value.ref (hp0.objs.size + 1) :: us) k0 (by rw [List.append_nil, List.length_cons, lu, hp])
    rw [List.append_nil] at b
    exact b
  refine wpAny_call (call_kw PySem.F.excBase_LookupError hT hC (PySem.W.looks_findIn I1.kIn iC) (fun self => PySem.W.bind_fn I1.kIn self tI) (by show us.length ≤ sizeLine; rw [lu, sizeLine_eq]; omega)
    (codeAny_mono (F.run _ X.stack _ _ ⟨Value.ref (hp0.objs.size + 1) :: us, []⟩ (Value.ref (hp0.objs.size + 1) :: us) _ _ E0 (hr.make C us []) (J.env0.make C us []) (hbb _ J.kIn) r2 sp) fun r s' hq' => ?_))
  cases r with
  | error er => exact hx pins σ _ _ er s' J hq'
  | ok fl =>
    cases fl with
    | ret u =>
      obtain ⟨v, H2, os2, bare2, un2, hok2, rv, ev, d, nd, ed, ea, dne, oth⟩ := hq'
      subst ev
      obtain ⟨h2, g2, d2, t2, os'⟩ := s'
      refine ⟨rv, mk_end (raises_own T.exC T.tyC) I1 hsz kk un2 hok2 os2 bare2 ea ed nd (q d _ nd upd_same fun b hb2 => ?_)⟩
      rw [upd_ne hb2]
      by_cases z : b = hp0.objs.size + 1
      · rw [z, del_same, hn]
      · rw [del_ne z, oth b z hb2]
    | next => exact False.elim hq'
    | brk => exact False.elim hq'
    | cont => exact False.elim hq'
end
/-! ### a method of the module's class by its name -/
structure MDef (P : Program) (w : World) (K : PySem.W.Frag) (mg : Str → Option Value) (base : Heap) (CX : CXT) (k : Nat) (C : Addr) (m : Str) (ps : List Str) (sp : Sp) : Prop where
  cl : Cls K C
  ex : ∃ (f : Addr) (fd : FuncData), Meth K C m f ∧ Binds K fd ps [] ∧ FnOk P w K mg base CX k f fd ps sp
section
variable {X : Cx} {CX : CXT} {k : Nat} {C : Addr} {ps : List Str} {sp : Sp} {E : XK} {m : Str} {o e : Expr} {es : List Expr} {to : TE} {t : TA} {apos pos : Pos}
theorem pe_mth {pl : Sem Bool} (c : MDef X.prog X.w X.K X.mg X.base CX k C m ps sp) (hr : Room k X.A) (hx : Passes CX X E) (ho : PE X o to) (ha : PA X (e :: es) t)
    (hst : starEach (e :: es) X.env = (false, eval e X.env) :: starEach es X.env := by rfl) (hpl : (backTo pos (starEach es X.env)).any (·.1) = false := by rfl)
    (ht : eval (.Call (.Attribute o m apos) (e :: es) [] pos) X.env = (do
      let ov ← eval o X.env
      standAt apos.atName
      let (f, first) ← holding [ov] (getMethod ov m pl)
      callWith pos f first (backTo pos (starEach (e :: es) X.env)) (backToKw pos (keywordEach [] X.env))) := by rfl) :
    PE X (.Call (.Attribute o m apos) (e :: es) [] pos) (tMeth C m sp [] E to t) := by
  obtain ⟨f, fd, hm, hb, F⟩ := c.ex
  exact pe_meth ho c.cl hm F hr hb .nil hx ha hst hpl ht
theorem pe_mth0 {pl : Sem Bool} (c : MDef X.prog X.w X.K X.mg X.base CX k C m ps sp) (hr : Room k X.A) (hx : Passes CX X E) (ho : PE X o to)
    (ht : eval (.Call (.Attribute o m apos) [] [] pos) X.env = (do
      let ov ← eval o X.env
      standAt apos.atName
      let (f, first) ← holding [ov] (getMethod ov m pl)
      callWith pos f first (backTo pos (starEach [] X.env)) (backToKw pos (keywordEach [] X.env))) := by rfl) :
    PE X (.Call (.Attribute o m apos) [] [] pos) (tMeth C m sp [] E to tNil) := by
  obtain ⟨f, fd, hm, hb, F⟩ := c.ex
  exact pe_meth0 ho c.cl hm F hr hb .nil hx ht
end
/-! ### written dicts with text keys -/
def KD (K : PySem.W.Frag) (w : World) (d : Addr) : Prop := ∃ es n, KDict K w d es n
section
variable {X : Cx} {d : Addr}
def rInKd (K : PySem.W.Frag) (d : Addr) : R2 := fun x y H Q => ∃ (z : Str) (r : Option Value), x = .str z ∧ y = .ref d ∧ PySem.W.nsIn K d z = some r ∧ Q (.bl r.isSome) H
def rNotInKd (K : PySem.W.Frag) (d : Addr) : R2 := fun x y H Q => ∃ (z : Str) (r : Option Value), x = .str z ∧ y = .ref d ∧ PySem.W.nsIn K d z = some r ∧ Q (.bl (!r.isSome)) H
theorem op_in_kd' (D : KD X.K X.w d) : OpR X (compareOp .In) (rInKd X.K d) := by
  obtain ⟨es, n, D⟩ := D
  exact op_in_kd D
theorem op_notIn_kd' (D : KD X.K X.w d) : OpR X (compareOp .NotIn) (rNotInKd X.K d) := by
  obtain ⟨es, n, D⟩ := D
  exact op_notIn_kd D
theorem kdct {K : PySem.W.Frag} {w : World} {d : Addr} {z : Str} {u : Value} {v : V} (D : KD K w d) (e : PySem.W.nsIn K d z = some (some u)) (r : RelV v u) : KDct K w d z v := by
  obtain ⟨es, n, D⟩ := D
  exact ⟨es, n, u, D.at_, D.lit, e, r⟩
end
theorem walk_zipT {K : PySem.W.Frag} {a b : Addr} {xs ys : List V} {n : Nat} (hn : n = min xs.length ys.length) : Walk (RZ.ItzT K a b) n (fun H => SqT K H a xs ∧ SqT K H b ys) (YPair (fun i => xs[i]?) (fun i => ys[i]?)) := by
  subst hn
  refine ⟨fun i _ hi q => ?_, fun _ q => ⟨xs, ys, q.1, q.2, by omega⟩, fun i H v H' _ q y => ?_⟩
  · have h1 : i < xs.length := by omega
    have h2 : i < ys.length := by omega
    exact ⟨xs, ys, xs[i], ys[i], q.1, q.2, by simp [h1], by simp [h2]⟩
  · obtain ⟨T, x, z, h1, h2, h3, h4, h5⟩ := y
    exact ⟨T, x, z, h1, h2, h3, h4 xs q.1, h5 ys q.2⟩
end L2

set_option Elab.async false
set_option maxRecDepth 100000
set_option maxHeartbeats 4000000
set_option linter.all false
namespace L2
open PySem PySem.Spec PyProof.Rows
section
variable {X : Cx} {CX : CXT} {k : Nat} {C : Addr} {ps : List Str} {sp : Sp} {E : XK} {W : WX} {x : Str} {e : Expr} {es : List Expr} {t : TA} {p pos : Pos}
theorem pe_fnS (c : Def X.prog X.w X.K X.mg X.base (L2.CX X.prog X.w) k x ps sp) (hr : Room k X.A) (hg : Gl X x) (tk : Takes X W) (ha : PA X (e :: es) t)
    (hdb : (x == ("__debug__" : Str)) = false := by decide) (he : starEach (e :: es) X.env = (false, eval e X.env) :: starEach es X.env := by rfl)
    (hpl : (backTo pos (starEach es X.env)).any (·.1) = false := by rfl) : PE X (.Call (.Name x p) (e :: es) [] pos) (tCallS sp (WE W) t) := by
  obtain ⟨f, fd, hm, hk, hb, F⟩ := c.ex
  exact pe_callS F hr hg hm hk hb (fun σ => passAt tk σ) ha hdb he hpl
end
end L2
namespace OR
open PySem PySem.Spec PyProof.Rows L2 TS2
/-! ### lists, pair by pair -/
inductive All2 {α β : Type} (R : α → β → Prop) : List α → List β → Prop where
  | nil : All2 R [] []
  | cons {x : α} {y : β} {xs : List α} {ys : List β} (h : R x y) (t : All2 R xs ys) : All2 R (x :: xs) (y :: ys)
namespace All2
variable {α β : Type} {R R' : α → β → Prop}
theorem len {xs : List α} {ys : List β} (h : All2 R xs ys) : xs.length = ys.length := by
  induction h with
  | nil => rfl
  | cons _ _ ih => simp [ih]
theorem at_ {xs : List α} {ys : List β} (h : All2 R xs ys) : ∀ {i : Nat} {x : α} {y : β}, xs[i]? = some x → ys[i]? = some y → R x y := by
  induction h with
  | nil => intro i x y hx; simp at hx
  | cons h t ih =>
    intro i x y hx hy
    cases i with
    | zero =>
      cases Option.some.inj hx
      cases Option.some.inj hy
      exact h
    | succ i => exact ih hx hy
theorem imp {xs : List α} {ys : List β} (h : All2 R xs ys) (f : ∀ x y, x ∈ xs → R x y → R' x y) : All2 R' xs ys := by
  induction h with
  | nil => exact .nil
  | cons h t ih => exact .cons (f _ _ List.mem_cons_self h) (ih fun x y hx => f x y (List.mem_cons_of_mem _ hx))
theorem app {xs xs' : List α} {ys ys' : List β} (h : All2 R xs ys) (h' : All2 R xs' ys') : All2 R (xs ++ xs') (ys ++ ys') := by
  induction h with
  | nil => exact h'
  | cons h _ ih => exact .cons h ih
theorem one {x : α} {y : β} (h : R x y) : All2 R [x] [y] := .cons h .nil
theorem take {xs : List α} {ys : List β} (h : All2 R xs ys) : ∀ n, All2 R (xs.take n) (ys.take n) := by
  induction h with
  | nil => intro n; simp; exact .nil
  | cons h _ ih =>
    intro n
    cases n with
    | zero => exact .nil
    | succ n => exact .cons h (ih n)
theorem other {xs : List α} {ys : List β} (h : All2 R xs ys) {i : Nat} {y : β} (hy : ys[i]? = some y) : ∃ x, xs[i]? = some x ∧ R x y := by
  have lt : i < ys.length := (List.getElem?_eq_some_iff.mp hy).1
  have e : xs[i]? = some (xs[i]'(by rw [h.len]; exact lt)) := List.getElem?_eq_getElem _
  exact ⟨_, e, h.at_ e hy⟩
theorem right {xs : List α} {ys : List β} (h : All2 R xs ys) {i : Nat} {x : α} (hx : xs[i]? = some x) : ∃ y, ys[i]? = some y ∧ R x y := by
  have lt : i < xs.length := (List.getElem?_eq_some_iff.mp hx).1
  have e : ys[i]? = some (ys[i]'(by rw [← h.len]; exact lt)) := List.getElem?_eq_getElem _
  exact ⟨_, e, h.at_ hx e⟩
end All2
theorem take_more {α : Type} {l : List α} {i : Nat} {x : α} (h : l[i]? = some x) : l.take (i + 1) = l.take i ++ [x] := by
  rw [List.take_succ, h]
  rfl
/-! ### rows as trees, d deep at most -/
inductive Pt (R : Type) where
  | word (s : Str) | words (l : List Str) | rows (l : List R) | sides (l : List (List R))
def Row : Nat → Type
  | 0 => Empty
  | d + 1 => Str × List (Pt (Row d))
def ftab : List (Str × List Str) := [("ask", ["ask", "label"]), ("timer", ["label"]), ("await", ["label", "slot"]), ("first", ["labels", "slot"]), ("drop", ["label"]), ("take", ["signal", "slot"]), ("note", ["slot", "words"]), ("put", ["slot", "word"]), ("if", ["source", "word", "rows", "rows"]), ("loop", ["rows"]), ("leave", []), ("part", ["rows"]), ("both", ["sides"]), ("gate", ["gate", "rows", "rows"]), ("past", ["gate", "rows"]), ("edit", ["edit", "rows", "rows"]), ("end", ["source"]), ("anew", ["source"])]
section
variable (K : PySem.W.Frag) (H : Hp)
def LstAt {R : Type} (RA : R → V → Prop) (l : List R) (v : V) : Prop := ∃ a xs, v = .ref a ∧ H a = some (.lst xs) ∧ All2 RA l xs
def PtAt {R : Type} (RA : R → V → Prop) : Pt R → V → Prop
  | .word s, v => v = .str s
  | .words l, v => ∃ a, v = .ref a ∧ SqT K H a (l.map V.str)
  | .rows l, v => LstAt H RA l v
  | .sides ls, v => ∃ a vs, v = .ref a ∧ SqT K H a vs ∧ All2 (LstAt H RA) ls vs
def RowAt : (d : Nat) → Row d → V → Prop
  | 0, r, _ => nomatch r
  | d + 1, r, v => ∃ a vs, v = .ref a ∧ SqT K H a (.str r.1 :: vs) ∧ All2 (PtAt K H (RowAt d)) r.2 vs
end
/-- the lists of rows in a row's parts -/
def kidsP {R : Type} : Pt R → List (List R)
  | .rows l => [l]
  | .sides ls => ls
  | _ => []
def kids {R : Type} (ps : List (Pt R)) : List (List R) := (ps.map kidsP).flatten
/-- the kinds of the parts are those of the forms -/
def kindOk {R : Type} (f : Str) : Pt R → Bool
  | .word _ => f ≠ "rows" && f ≠ "sides" && f ≠ "labels" && f ≠ "words"
  | .words _ => f == "labels" || f == "words"
  | .rows _ => f == "rows"
  | .sides _ => f == "sides"
def KindsOk {R : Type} (fs : List Str) (ps : List (Pt R)) : Prop := All2 (fun f p => kindOk f p = true) fs ps
/-- the plain words of the parts whose forms are among the named ones -/
def wordsP {R : Type} : Pt R → List Str
  | .word s => [s]
  | .words l => l
  | _ => []
def named {R : Type} (which : List Str) (fs : List Str) (ps : List (Pt R)) : List Str := ((fs.zip ps).map fun x => if x.1 ∈ which then wordsP x.2 else []).flatten
/-- all but the objects at C stands -/
def Kp (C : Addr → Prop) (H H' : Hp) : Prop := ∀ b o, H b = some o → ¬ C b → H' b = some o
def Sep (H0 : Hp) (C : Addr → Prop) : Prop := ∀ b, C b → H0 b = none
theorem Kp.refl {C : Addr → Prop} (H : Hp) : Kp C H H := fun _ _ h _ => h
theorem Kp.trans {C : Addr → Prop} {H H1 H2 : Hp} (a : Kp C H H1) (b : Kp C H1 H2) : Kp C H H2 := fun c o h n => b c o (a c o h n) n
theorem Kp.of {C : Addr → Prop} {H H' : Hp} (s : Same H H') : Kp C H H' := fun b o h _ => s b o h
theorem Kp.base {C : Addr → Prop} {H0 H H' : Hp} (s : Same H0 H) (k : Kp C H H') (n : Sep H0 C) : Same H0 H' := fun b o h => k b o (s b o h) fun c => by rw [n b c] at h; cases h
theorem Kp.put {C : Addr → Prop} {H : Hp} {a : Addr} {o : HO} (h : C a) : Kp C H (upd H a o) := fun b u e n => by rw [upd_ne (fun z : b = a => n (z.symm ▸ h))]; exact e
theorem Kp.mono {C C' : Addr → Prop} {H H' : Hp} (k : Kp C H H') (h : ∀ b, C b → C' b) : Kp C' H H' := fun b o e n => k b o e fun c => n (h b c)
end OR

set_option Elab.async false
set_option maxRecDepth 100000
set_option maxHeartbeats 4000000
set_option linter.all false
namespace OR
open PySem PySem.Spec PyProof.Rows L2
def top (i : Nat) : Stmt := PySem.Challenge.pw_openruns_k02_paths_of_rows.main.body.getD i (.Pass ⟨0, 0, 0, 0⟩)
abbrev FnP (K : PySem.W.Frag) (x qual : Str) (st : Stmt) (f : Addr) (fd : FuncData) : Prop := FunD K x qual (defArgs st) (defBody st) (defScope st) [] [] f fd
abbrev s_lists_of : Stmt := top 11
abbrev n_lists_of : List Str := ["row", "lists", "form", "part"]
abbrev p_lists_of : List Str := ["row"]
theorem sc_lists_of : FnScope n_lists_of p_lists_of (defScope s_lists_of) := ⟨rfl, rfl, rfl, by decide +kernel, rfl, by decide +kernel, by decide +kernel⟩
abbrev s_with_lists : Stmt := top 12
abbrev n_with_lists : List Str := ["row", "lists"]
abbrev p_with_lists : List Str := ["row", "lists"]
theorem sc_with_lists : FnScope n_with_lists p_with_lists (defScope s_with_lists) := ⟨rfl, rfl, rfl, by decide +kernel, rfl, by decide +kernel, by decide +kernel⟩
abbrev s_words_named : Stmt := top 13
abbrev n_words_named : List Str := ["row", "forms", "named", "form", "part"]
abbrev p_words_named : List Str := ["row", "forms"]
theorem sc_words_named : FnScope n_words_named p_words_named (defScope s_words_named) := ⟨rfl, rfl, rfl, by decide +kernel, rfl, by decide +kernel, by decide +kernel⟩
abbrev s_copied : Stmt := top 14
abbrev n_copied : List Str := ["rows", "row", "inner"]
abbrev p_copied : List Str := ["rows"]
theorem sc_copied : FnScope n_copied p_copied (defScope s_copied) := ⟨rfl, rfl, rfl, by decide +kernel, rfl, by decide +kernel, by decide +kernel⟩
abbrev s_is_word : Stmt := top 17
abbrev n_is_word : List Str := ["value", "letter"]
abbrev p_is_word : List Str := ["value"]
theorem sc_is_word : FnScope n_is_word p_is_word (defScope s_is_word) := ⟨rfl, rfl, rfl, by decide +kernel, rfl, by decide +kernel, by decide +kernel⟩
abbrev s_is_integer : Stmt := top 18
abbrev n_is_integer : List Str := ["value"]
abbrev p_is_integer : List Str := ["value"]
theorem sc_is_integer : FnScope n_is_integer p_is_integer (defScope s_is_integer) := ⟨rfl, rfl, rfl, by decide +kernel, rfl, by decide +kernel, by decide +kernel⟩
abbrev s_are_words : Stmt := top 19
abbrev n_are_words : List Str := ["value", "most", "word"]
abbrev p_are_words : List Str := ["value", "most"]
theorem sc_are_words : FnScope n_are_words p_are_words (defScope s_are_words) := ⟨rfl, rfl, rfl, by decide +kernel, rfl, by decide +kernel, by decide +kernel⟩
abbrev s_RowCheck___init__ : Stmt := inClass (top 23) 0
abbrev n_RowCheck___init__ : List Str := ["self", "ask_table", "signal_table", "with_edits"]
abbrev p_RowCheck___init__ : List Str := ["self", "ask_table", "signal_table", "with_edits"]
theorem sc_RowCheck___init__ : FnScope n_RowCheck___init__ p_RowCheck___init__ (defScope s_RowCheck___init__) := ⟨rfl, rfl, rfl, by decide +kernel, rfl, by decide +kernel, by decide +kernel⟩
abbrev s_RowCheck_check_rows : Stmt := inClass (top 23) 1
abbrev n_RowCheck_check_rows : List Str := ["self", "rows"]
abbrev p_RowCheck_check_rows : List Str := ["self", "rows"]
theorem sc_RowCheck_check_rows : FnScope n_RowCheck_check_rows p_RowCheck_check_rows (defScope s_RowCheck_check_rows) := ⟨rfl, rfl, rfl, by decide +kernel, rfl, by decide +kernel, by decide +kernel⟩
abbrev s_RowCheck_check_list : Stmt := inClass (top 23) 2
abbrev n_RowCheck_check_list : List Str := ["self", "rows", "prefix", "in_loop", "number", "row", "path", "inner_in_loop", "place", "inner"]
abbrev p_RowCheck_check_list : List Str := ["self", "rows", "prefix", "in_loop"]
theorem sc_RowCheck_check_list : FnScope n_RowCheck_check_list p_RowCheck_check_list (defScope s_RowCheck_check_list) := ⟨rfl, rfl, rfl, by decide +kernel, rfl, by decide +kernel, by decide +kernel⟩
abbrev s_RowCheck_has_form : Stmt := inClass (top 23) 3
abbrev n_RowCheck_has_form : List Str := ["self", "row", "forms", "form", "part"]
abbrev p_RowCheck_has_form : List Str := ["self", "row"]
theorem sc_RowCheck_has_form : FnScope n_RowCheck_has_form p_RowCheck_has_form (defScope s_RowCheck_has_form) := ⟨rfl, rfl, rfl, by decide +kernel, rfl, by decide +kernel, by decide +kernel⟩
abbrev s_RowCheck_fits : Stmt := inClass (top 23) 4
abbrev n_RowCheck_fits : List Str := ["self", "form", "part"]
abbrev p_RowCheck_fits : List Str := ["self", "form", "part"]
theorem sc_RowCheck_fits : FnScope n_RowCheck_fits p_RowCheck_fits (defScope s_RowCheck_fits) := ⟨rfl, rfl, rfl, by decide +kernel, rfl, by decide +kernel, by decide +kernel⟩
abbrev s_RowCheck_is_new : Stmt := inClass (top 23) 5
abbrev n_RowCheck_is_new : List Str := ["self", "row", "forms", "is_free"]
abbrev p_RowCheck_is_new : List Str := ["self", "row"]
theorem sc_RowCheck_is_new : FnScope n_RowCheck_is_new p_RowCheck_is_new (defScope s_RowCheck_is_new) := ⟨rfl, rfl, rfl, by decide +kernel, rfl, by decide +kernel, by decide +kernel⟩
abbrev s_are_sides : Stmt := top 24
abbrev n_are_sides : List Str := ["part", "side"]
abbrev p_are_sides : List Str := ["part"]
theorem sc_are_sides : FnScope n_are_sides p_are_sides (defScope s_are_sides) := ⟨rfl, rfl, rfl, by decide +kernel, rfl, by decide +kernel, by decide +kernel⟩
abbrev s_may_stand : Stmt := top 25
abbrev n_may_stand : List Str := ["row", "path", "in_loop", "depth"]
abbrev p_may_stand : List Str := ["row", "path", "in_loop"]
theorem sc_may_stand : FnScope n_may_stand p_may_stand (defScope s_may_stand) := ⟨rfl, rfl, rfl, by decide +kernel, rfl, by decide +kernel, by decide +kernel⟩
abbrev s_Plan___init__ : Stmt := inClass (top 29) 0
abbrev n_Plan___init__ : List Str := ["self", "rows", "number", "path"]
abbrev p_Plan___init__ : List Str := ["self", "rows"]
theorem sc_Plan___init__ : FnScope n_Plan___init__ p_Plan___init__ (defScope s_Plan___init__) := ⟨rfl, rfl, rfl, by decide +kernel, rfl, by decide +kernel, by decide +kernel⟩
abbrev s_Plan_lay_list : Stmt := inClass (top 29) 1
abbrev n_Plan_lay_list : List Str := ["self", "rows", "prefix", "end", "exit_place", "number", "row", "behind"]
abbrev p_Plan_lay_list : List Str := ["self", "rows", "prefix", "end", "exit_place"]
theorem sc_Plan_lay_list : FnScope n_Plan_lay_list p_Plan_lay_list (defScope s_Plan_lay_list) := ⟨rfl, rfl, rfl, by decide +kernel, rfl, by decide +kernel, by decide +kernel⟩
abbrev s_Plan_lay_row : Stmt := inClass (top 29) 2
abbrev n_Plan_lay_row : List Str := ["self", "row", "path", "behind", "exit_place", "here", "place", "inner", "end", "first_place"]
abbrev p_Plan_lay_row : List Str := ["self", "row", "path", "behind", "exit_place"]
theorem sc_Plan_lay_row : FnScope n_Plan_lay_row p_Plan_lay_row (defScope s_Plan_lay_row) := ⟨rfl, rfl, rfl, by decide +kernel, rfl, by decide +kernel, by decide +kernel⟩
abbrev s_size_of : Stmt := top 30
abbrev n_size_of : List Str := ["row", "rows", "inner"]
abbrev p_size_of : List Str := ["row"]
theorem sc_size_of : FnScope n_size_of p_size_of (defScope s_size_of) := ⟨rfl, rfl, rfl, by decide +kernel, rfl, by decide +kernel, by decide +kernel⟩
abbrev s_end_within : Stmt := top 31
abbrev n_end_within : List Str := ["row", "here", "behind"]
abbrev p_end_within : List Str := ["row", "here", "behind"]
theorem sc_end_within : FnScope n_end_within p_end_within (defScope s_end_within) := ⟨rfl, rfl, rfl, by decide +kernel, rfl, by decide +kernel, by decide +kernel⟩
abbrev s_Draft___init__ : Stmt := inClass (top 43) 0
abbrev n_Draft___init__ : List Str := ["self", "rows", "asks", "signals", "inputs", "with_edits"]
abbrev p_Draft___init__ : List Str := ["self", "rows", "asks", "signals", "inputs", "with_edits"]
theorem sc_Draft___init__ : FnScope n_Draft___init__ p_Draft___init__ (defScope s_Draft___init__) := ⟨rfl, rfl, rfl, by decide +kernel, rfl, by decide +kernel, by decide +kernel⟩
abbrev s_checked_table : Stmt := top 44
abbrev n_checked_table : List Str := ["value", "part", "most", "name", "entry"]
abbrev p_checked_table : List Str := ["value", "part", "most"]
theorem sc_checked_table : FnScope n_checked_table p_checked_table (defScope s_checked_table) := ⟨rfl, rfl, rfl, by decide +kernel, rfl, by decide +kernel, by decide +kernel⟩
abbrev s_is_entry : Stmt := top 45
abbrev n_is_entry : List Str := ["entry", "part", "room", "words"]
abbrev p_is_entry : List Str := ["entry", "part"]
theorem sc_is_entry : FnScope n_is_entry p_is_entry (defScope s_is_entry) := ⟨rfl, rfl, rfl, by decide +kernel, rfl, by decide +kernel, by decide +kernel⟩
abbrev s_named_in : Stmt := top 46
abbrev n_named_in : List Str := ["flat", "labels", "slots", "gates", "row", "word", "slot"]
abbrev p_named_in : List Str := ["flat"]
theorem sc_named_in : FnScope n_named_in p_named_in (defScope s_named_in) := ⟨rfl, rfl, rfl, by decide +kernel, rfl, by decide +kernel, by decide +kernel⟩
abbrev s_check_sizes : Stmt := top 47
abbrev n_check_sizes : List Str := ["plan", "names"]
abbrev p_check_sizes : List Str := ["plan", "names"]
theorem sc_check_sizes : FnScope n_check_sizes p_check_sizes (defScope s_check_sizes) := ⟨rfl, rfl, rfl, by decide +kernel, rfl, by decide +kernel, by decide +kernel⟩
abbrev s_Program___init__ : Stmt := inClass (top 49) 0
abbrev n_Program___init__ : List Str := ["self", "rows", "asks", "signals", "inputs"]
abbrev p_Program___init__ : List Str := ["self", "rows", "asks", "signals", "inputs"]
theorem sc_Program___init__ : FnScope n_Program___init__ p_Program___init__ (defScope s_Program___init__) := ⟨rfl, rfl, rfl, by decide +kernel, rfl, by decide +kernel, by decide +kernel⟩
abbrev s_Program_rows : Stmt := inClass (top 49) 1
abbrev n_Program_rows : List Str := ["self"]
abbrev p_Program_rows : List Str := ["self"]
theorem sc_Program_rows : FnScope n_Program_rows p_Program_rows (defScope s_Program_rows) := ⟨rfl, rfl, rfl, by decide +kernel, rfl, by decide +kernel, by decide +kernel⟩
abbrev s_Program_paths : Stmt := inClass (top 49) 5
abbrev n_Program_paths : List Str := ["self"]
abbrev p_Program_paths : List Str := ["self"]
theorem sc_Program_paths : FnScope n_Program_paths p_Program_paths (defScope s_Program_paths) := ⟨rfl, rfl, rfl, by decide +kernel, rfl, by decide +kernel, by decide +kernel⟩
abbrev s_Program_row_at : Stmt := inClass (top 49) 6
abbrev n_Program_row_at : List Str := ["self", "path"]
abbrev p_Program_row_at : List Str := ["self", "path"]
theorem sc_Program_row_at : FnScope n_Program_row_at p_Program_row_at (defScope s_Program_row_at) := ⟨rfl, rfl, rfl, by decide +kernel, rfl, by decide +kernel, by decide +kernel⟩
abbrev s_Program_has_path : Stmt := inClass (top 49) 9
abbrev n_Program_has_path : List Str := ["self", "path", "number"]
abbrev p_Program_has_path : List Str := ["self", "path"]
theorem sc_Program_has_path : FnScope n_Program_has_path p_Program_has_path (defScope s_Program_has_path) := ⟨rfl, rfl, rfl, by decide +kernel, rfl, by decide +kernel, by decide +kernel⟩
abbrev s__law_bag : Stmt := top 51
abbrev n__law_bag : List Str := ["_law_script", "_law_cell"]
abbrev p__law_bag : List Str := ["_law_script"]
theorem sc__law_bag : FnScope n__law_bag p__law_bag (defScope s__law_bag) := ⟨rfl, rfl, rfl, by decide +kernel, rfl, by decide +kernel, by decide +kernel⟩
abbrev s__law_draw : Stmt := top 52
abbrev n__law_draw : List Str := ["_law_bag_here", "_law_many", "_law_number", "_law_cell", "_law_value"]
abbrev p__law_draw : List Str := ["_law_bag_here", "_law_many"]
theorem sc__law_draw : FnScope n__law_draw p__law_draw (defScope s__law_draw) := ⟨rfl, rfl, rfl, by decide +kernel, rfl, by decide +kernel, by decide +kernel⟩
abbrev s__law_one : Stmt := top 53
abbrev n__law_one : List Str := ["_law_bag_here", "_law_items"]
abbrev p__law_one : List Str := ["_law_bag_here", "_law_items"]
theorem sc__law_one : FnScope n__law_one p__law_one (defScope s__law_one) := ⟨rfl, rfl, rfl, by decide +kernel, rfl, by decide +kernel, by decide +kernel⟩
abbrev s__law_words : Stmt := top 54
abbrev n__law_words : List Str := ["_law_bag_here", "_law_many", "_law_most", "_law_taken", "_law_letters", "_law_words_here", "_law_k", "_law_size", "_law_word", "_law_shift", "_law_last", "_law_place"]
abbrev p__law_words : List Str := ["_law_bag_here", "_law_many", "_law_most", "_law_taken"]
theorem sc__law_words : FnScope n__law_words p__law_words (defScope s__law_words) := ⟨rfl, rfl, rfl, by decide +kernel, rfl, by decide +kernel, by decide +kernel⟩
abbrev s__law_kit : Stmt := top 55
abbrev n__law_kit : List Str := ["_law_bag_here", "_law_room", "_law_deepest", "_law_gated", "_law_kit_here", "_law_name"]
abbrev p__law_kit : List Str := ["_law_bag_here", "_law_room", "_law_deepest", "_law_gated"]
theorem sc__law_kit : FnScope n__law_kit p__law_kit (defScope s__law_kit) := ⟨rfl, rfl, rfl, by decide +kernel, rfl, by decide +kernel, by decide +kernel⟩
abbrev s__law_start_row : Stmt := top 56
abbrev n__law_start_row : List Str := ["_law_bag_here", "_law_kit_here", "_law_label"]
abbrev p__law_start_row : List Str := ["_law_bag_here", "_law_kit_here", "_law_label"]
theorem sc__law_start_row : FnScope n__law_start_row p__law_start_row (defScope s__law_start_row) := ⟨rfl, rfl, rfl, by decide +kernel, rfl, by decide +kernel, by decide +kernel⟩
abbrev s__law_plain_row : Stmt := top 57
abbrev n__law_plain_row : List Str := ["_law_bag_here", "_law_kit_here", "_law_pick", "_law_inside", "_law_label", "_law_slot", "_law_others", "_law_name"]
abbrev p__law_plain_row : List Str := ["_law_bag_here", "_law_kit_here", "_law_pick", "_law_inside"]
theorem sc__law_plain_row : FnScope n__law_plain_row p__law_plain_row (defScope s__law_plain_row) := ⟨rfl, rfl, rfl, by decide +kernel, rfl, by decide +kernel, by decide +kernel⟩
abbrev s__law_great_row : Stmt := top 58
abbrev n__law_great_row : List Str := ["_law_bag_here", "_law_kit_here", "_law_pick", "_law_depth", "_law_inside", "_law_lists_here", "_law_k"]
abbrev p__law_great_row : List Str := ["_law_bag_here", "_law_kit_here", "_law_pick", "_law_depth", "_law_inside"]
theorem sc__law_great_row : FnScope n__law_great_row p__law_great_row (defScope s__law_great_row) := ⟨rfl, rfl, rfl, by decide +kernel, rfl, by decide +kernel, by decide +kernel⟩
abbrev s__law_list : Stmt := top 59
abbrev n__law_list : List Str := ["_law_bag_here", "_law_kit_here", "_law_depth", "_law_inside", "_law_rows", "_law_k", "_law_pick", "_law_label"]
abbrev p__law_list : List Str := ["_law_bag_here", "_law_kit_here", "_law_depth", "_law_inside"]
theorem sc__law_list : FnScope n__law_list p__law_list (defScope s__law_list) := ⟨rfl, rfl, rfl, by decide +kernel, rfl, by decide +kernel, by decide +kernel⟩
abbrev s__law_plan : Stmt := top 60
abbrev n__law_plan : List Str := ["_law_bag_here", "_law_room", "_law_deepest", "_law_gated", "_law_kit_here"]
abbrev p__law_plan : List Str := ["_law_bag_here", "_law_room", "_law_deepest", "_law_gated"]
theorem sc__law_plan : FnScope n__law_plan p__law_plan (defScope s__law_plan) := ⟨rfl, rfl, rfl, by decide +kernel, rfl, by decide +kernel, by decide +kernel⟩
abbrev s__law_copy_part : Stmt := top 61
abbrev n__law_copy_part : List Str := ["_law_part", "_law_each"]
abbrev p__law_copy_part : List Str := ["_law_part"]
theorem sc__law_copy_part : FnScope n__law_copy_part p__law_copy_part (defScope s__law_copy_part) := ⟨rfl, rfl, rfl, by decide +kernel, rfl, by decide +kernel, by decide +kernel⟩
abbrev s__law_copy_rows : Stmt := top 62
abbrev n__law_copy_rows : List Str := ["_law_rows", "_law_row"]
abbrev p__law_copy_rows : List Str := ["_law_rows"]
theorem sc__law_copy_rows : FnScope n__law_copy_rows p__law_copy_rows (defScope s__law_copy_rows) := ⟨rfl, rfl, rfl, by decide +kernel, rfl, by decide +kernel, by decide +kernel⟩
abbrev s__law_program : Stmt := top 63
abbrev n__law_program : List Str := ["_law_plan_here", "_law_rows"]
abbrev p__law_program : List Str := ["_law_plan_here"]
theorem sc__law_program : FnScope n__law_program p__law_program (defScope s__law_program) := ⟨rfl, rfl, rfl, by decide +kernel, rfl, by decide +kernel, by decide +kernel⟩
abbrev s__law_same : Stmt := top 64
abbrev n__law_same : List Str := ["_law_told", "_law_due", "_law_k"]
abbrev p__law_same : List Str := ["_law_told", "_law_due"]
theorem sc__law_same : FnScope n__law_same p__law_same (defScope s__law_same) := ⟨rfl, rfl, rfl, by decide +kernel, rfl, by decide +kernel, by decide +kernel⟩
abbrev s__law_lists : Stmt := top 65
abbrev n__law_lists : List Str := ["_law_row", "_law_part"]
abbrev p__law_lists : List Str := ["_law_row"]
theorem sc__law_lists : FnScope n__law_lists p__law_lists (defScope s__law_lists) := ⟨rfl, rfl, rfl, by decide +kernel, rfl, by decide +kernel, by decide +kernel⟩
abbrev s__law_paths : Stmt := top 67
abbrev n__law_paths : List Str := ["_law_rows", "_law_prefix", "_law_paths_here", "_law_index", "_law_lists_here", "_law_number"]
abbrev p__law_paths : List Str := ["_law_rows", "_law_prefix"]
theorem sc__law_paths : FnScope n__law_paths p__law_paths (defScope s__law_paths) := ⟨rfl, rfl, rfl, by decide +kernel, rfl, by decide +kernel, by decide +kernel⟩
abbrev s__law_at : Stmt := top 68
abbrev n__law_at : List Str := ["_law_rows", "_law_path"]
abbrev p__law_at : List Str := ["_law_rows", "_law_path"]
theorem sc__law_at : FnScope n__law_at p__law_at (defScope s__law_at) := ⟨rfl, rfl, rfl, by decide +kernel, rfl, by decide +kernel, by decide +kernel⟩
abbrev s__law_refused : Stmt := top 71
abbrev n__law_refused : List Str := ["_law_program_here", "_law_value", "e"]
abbrev p__law_refused : List Str := ["_law_program_here", "_law_value"]
theorem sc__law_refused : FnScope n__law_refused p__law_refused (defScope s__law_refused) := ⟨rfl, rfl, rfl, by decide +kernel, rfl, by decide +kernel, by decide +kernel⟩
abbrev s__law_wrong : Stmt := top 72
abbrev n__law_wrong : List Str := ["_law_path", "_law_last", "_law_short", "_law_values", "_law_k"]
abbrev p__law_wrong : List Str := ["_law_path"]
theorem sc__law_wrong : FnScope n__law_wrong p__law_wrong (defScope s__law_wrong) := ⟨rfl, rfl, rfl, by decide +kernel, rfl, by decide +kernel, by decide +kernel⟩
abbrev s_law : Stmt := top 73
abbrev n_law : List Str := ["_law_script", "_law_bag_here", "_law_plan_here", "_law_program_here", "_law_due", "_law_path", "_law_asked", "_law_value", "_law_told", "_law_inner"]
abbrev p_law : List Str := ["_law_script"]
theorem sc_law : FnScope n_law p_law (defScope s_law) := ⟨rfl, rfl, rfl, by decide +kernel, rfl, by decide +kernel, by decide +kernel⟩
structure Tx (w : World) (K : PySem.W.Frag) (mg : Str → Option Value) : Prop where
  b_isinstance : mg "isinstance" = none
  b_str : mg "str" = none
  b_int : mg "int" = none
  b_bool : mg "bool" = none
  b_tuple : mg "tuple" = none
  b_list : mg "list" = none
  b_dict : mg "dict" = none
  b_len : mg "len" = none
  b_all : mg "all" = none
  b_zip : mg "zip" = none
  b_enumerate : mg "enumerate" = none
  b_range : mg "range" = none
  b_sorted : mg "sorted" = none
  b_set : mg "set" = none
  b_sum : mg "sum" = none
  m_THROUGH : ∃ t, mg "THROUGH" = some (.int (-1) t)
  m_FINISH : ∃ t, mg "FINISH" = some (.int (-2) t)
  m_MOST_ASKS : ∃ t, mg "MOST_ASKS" = some (.int (6) t)
  m_MOST_ANSWERS : ∃ t, mg "MOST_ANSWERS" = some (.int (4) t)
  m_MOST_SIGNALS : ∃ t, mg "MOST_SIGNALS" = some (.int (3) t)
  m_MOST_ROOM : ∃ t, mg "MOST_ROOM" = some (.int (3) t)
  m_MOST_SIGNAL_WORDS : ∃ t, mg "MOST_SIGNAL_WORDS" = some (.int (3) t)
  m_MOST_INPUTS : ∃ t, mg "MOST_INPUTS" = some (.int (3) t)
  m_MOST_ROWS : ∃ t, mg "MOST_ROWS" = some (.int (60) t)
  m_MOST_LABELS : ∃ t, mg "MOST_LABELS" = some (.int (6) t)
  m_MOST_SLOTS : ∃ t, mg "MOST_SLOTS" = some (.int (4) t)
  m_MOST_GATES : ∃ t, mg "MOST_GATES" = some (.int (8) t)
  m_DEEPEST : ∃ t, mg "DEEPEST" = some (.int (5) t)
  m_MOST_IN_ROW : ∃ t, mg "MOST_IN_ROW" = some (.int (3) t)
  m_LONGEST_WORD : ∃ t, mg "LONGEST_WORD" = some (.int (8) t)
  m_EDIT : ∃ t, mg "EDIT" = some (.str "edit" t)
  m_INPUT_SLOT : ∃ t, mg "INPUT_SLOT" = some (.str "in" t)
  m_FORMS : mg "FORMS" = some (.ref (He.ga K "FORMS"))
  D_FORMS : KD K w (He.ga K "FORMS")
  forms : ∀ e ∈ ftab, ∃ p, PySem.W.nsIn K (He.ga K "FORMS") e.1 = some (some (.ref p)) ∧ ∀ H, SqT K H p (e.2.map V.str)
  m_Program : mg "Program" = some (.ref (He.ga K "Program"))
  c_RowCheck : Cls K (He.ga K "RowCheck")
  n_RowCheck_ask_table : NoAttr K (He.ga K "RowCheck") "ask_table"
  n_RowCheck_signal_table : NoAttr K (He.ga K "RowCheck") "signal_table"
  n_RowCheck_with_edits : NoAttr K (He.ga K "RowCheck") "with_edits"
  n_RowCheck_seen_edits : NoAttr K (He.ga K "RowCheck") "seen_edits"
  n_RowCheck_seen_gates : NoAttr K (He.ga K "RowCheck") "seen_gates"
  c_Plan : Cls K (He.ga K "Plan")
  n_Plan_flat : NoAttr K (He.ga K "Plan") "flat"
  n_Plan_places : NoAttr K (He.ga K "Plan") "places"
  n_Plan_behind : NoAttr K (He.ga K "Plan") "behind"
  n_Plan_entries : NoAttr K (He.ga K "Plan") "entries"
  n_Plan_sides : NoAttr K (He.ga K "Plan") "sides"
  n_Plan_starts : NoAttr K (He.ga K "Plan") "starts"
  n_Plan_numbers : NoAttr K (He.ga K "Plan") "numbers"
  c_Program : Cls K (He.ga K "Program")
  n_Program_ask_table : NoAttr K (He.ga K "Program") "ask_table"
  n_Program_signal_table : NoAttr K (He.ga K "Program") "signal_table"
  n_Program_input_words : NoAttr K (He.ga K "Program") "input_words"
  n_Program_row_list : NoAttr K (He.ga K "Program") "row_list"
  n_Program_plan : NoAttr K (He.ga K "Program") "plan"
  n_Program_name_table : NoAttr K (He.ga K "Program") "name_table"
end OR

set_option Elab.async false
set_option maxRecDepth 100000
set_option maxHeartbeats 4000000
set_option linter.all false
namespace L2
open PySem PySem.Spec PyProof.Rows
theorem tchainC' {f g : Int → Int → Bool} {c i j : Int} {ta tb tc : TE} {σ : St} {H : Hp} {Q : VK} (ha : Val ta σ H (.int i)) (hb : Val tb σ H (.int j)) (hc : Val tc σ H (.int c)) (h : Q (.bl (f i j && g j c)) H) :
    tChain (rI0 fun i j => .bl (f i j)) (rI0 fun i j => .bl (g i j)) ta tb tc σ H Q := by
  refine ha _ (hb _ ⟨i, j, rfl, rfl, f i j, rfl, ?_⟩)
  cases e : f i j with
  | true =>
    rw [e] at h
    exact iteT (hc _ ⟨j, c, rfl, rfl, h⟩)
  | false =>
    rw [e] at h
    exact iteF h
end L2
namespace OR
open PySem PySem.Spec PyProof.Rows L2 TS2
theorem at0 {x : V} {xs : List V} : atI (x :: xs) 0 = some x := atI_nat (xs := x :: xs) (j := 0) (by rfl)
theorem at1 {x y : V} {xs : List V} : atI (x :: y :: xs) 1 = some y := atI_nat (xs := x :: y :: xs) (j := 1) (by rfl)
theorem tyT {K : PySem.W.Frag} {H : Hp} {a : Addr} {xs : List V} (h : SqT K H a xs) : TyX K H (.ref a) (.type "tuple") := by
  rcases h with (h | ⟨o, h⟩) | ⟨o, _, _, h, hc, _⟩
  · exact .base (.tup h)
  · exact .fTuple h
  · exact .kTuple h hc
theorem tyL {K : PySem.W.Frag} {H : Hp} {a : Addr} {xs : List V} (h : SqL K H a xs) : TyX K H (.ref a) (.type "list") := by
  rcases h with (h | ⟨o, h⟩) | ⟨o, _, _, h, hc, _⟩
  · exact .base (.lst h)
  · exact .base (.frz h)
  · exact .kList h hc
theorem sameT {K : PySem.W.Frag} {H H' : Hp} {a : Addr} {xs : List V} (e : Same H H') (h : SqT K H a xs) : SqT K H' a xs := by
  rcases h with (h | ⟨o, h⟩) | h
  · exact .inl (.inl (e _ _ h))
  · exact .inl (.inr ⟨o, e _ _ h⟩)
  · exact .inr h
/-- a value that is no x -/
def NotA (K : PySem.W.Frag) (H : Hp) (v : V) (x : String) : Prop := ∃ ty, TyX K H v ty ∧ PySem.W.kitOne K ty (.type x) = some false
def lowC (c : Nat) : Bool := (!decide ((⟨#[c]⟩ : Str).cps.toList < ("a" : Str).cps.toList)) && (!decide (("z" : Str).cps.toList < (⟨#[c]⟩ : Str).cps.toList))
def isWord (z : Str) : Bool := (decide (1 ≤ (z.length : Int)) && decide ((z.length : Int) ≤ 8)) && (z.cps.toList.map lowC).all id
/-- no text -/
def NoStrT (K : PySem.W.Frag) (H : Hp) (v : V) : Prop := ∃ ty, TyX K H v ty ∧ PySem.W.kitOne K ty (.type "str") = some false
def spIsWord (K : PySem.W.Frag) : Sp := fun vs H Q _ => (∃ z : Str, vs = [.str z] ∧ z.length ≤ sizeLine ∧ ∀ H', Same H H' → Q (.bl (isWord z)) H') ∨ ∃ v, vs = [v] ∧ NoStrT K H v ∧ Q (.bl false) H
theorem noStr_non {K : PySem.W.Frag} {H : Hp} : NoStrT K H .non := ⟨_, .base .non, kit_ty (by decide +kernel)⟩
theorem noStr_int {K : PySem.W.Frag} {H : Hp} (i : Int) : NoStrT K H (.int i) := ⟨_, .base (.int i), kit_ty (by decide +kernel)⟩
theorem tchainS {i j c : Str} {ta tb : TE} {σ : L2.St} {H : Hp} {Q : VK} (ha : Val ta σ H (.str i)) (hb : Val tb σ H (.str j))
    (h : Q (.bl ((!decide (j.cps.toList < i.cps.toList)) && (!decide (c.cps.toList < j.cps.toList)))) H) :
    tChain (fun x y H Q => ∃ i j, x = V.str i ∧ y = V.str j ∧ Q (V.bl !decide (j.cps.toList < i.cps.toList)) H) (fun x y H Q => ∃ i j, x = V.str i ∧ y = V.str j ∧ Q (V.bl !decide (j.cps.toList < i.cps.toList)) H) ta tb (tC (.str c)) σ H Q := by
  refine ha _ (hb _ ⟨i, j, rfl, rfl, (!decide (j.cps.toList < i.cps.toList)), rfl, ?_⟩)
  cases e : (!decide (j.cps.toList < i.cps.toList)) with
  | true =>
    rw [e] at h
    exact iteT ⟨j, c, rfl, rfl, h⟩
  | false =>
    rw [e] at h
    exact iteF h
theorem tYes_ {σ : L2.St} {H : Hp} {Q : Bool → Hp → Prop} (h : Q true H) : tYes σ H Q := h
def spIsInt : Sp := fun vs H Q _ => ∃ (v : V) (b : Bool), vs = [v] ∧ ((∃ i, v = .int i ∧ b = true) ∨ (∃ c, v = .bl c ∧ b = false) ∨ (∃ z, v = .str z ∧ b = false)) ∧ Q (.bl b) H
def areW (m : Int) (ws : List Str) : Bool := (decide (1 ≤ (ws.length : Int)) && decide ((ws.length : Int) ≤ m)) && ((ws.map isWord).all id && decide (V.int (uniq ws).length = V.int ws.length))
def spAreWords (K : PySem.W.Frag) : Sp := fun vs H Q _ => ∃ (v : V) (m : Int), vs = [v, .int m] ∧
  ((∃ a ws, v = .ref a ∧ SqT K H a (ws.map V.str) ∧ (∀ z ∈ ws, z.length ≤ sizeLine) ∧ ws.length ≤ 1000 ∧ ∀ H', Same H H' → Q (.bl (areW m ws)) H') ∨ (NotA K H v "tuple" ∧ Q (.bl false) H))
section
variable {P : Program} {w : World} {K : PySem.W.Frag} {mg : Str → Option Value} {base : Heap}
theorem ok_is_word {f : Addr} {fd : FuncData} (F : FnP K "is_word" "is_word" s_is_word f fd) (T : Tx w K mg) : FnOk P w K mg base CX0 1 f fd p_is_word (spIsWord K) := by
  refine F.ok sc_is_word (fun vs H Q E h => ?_) (fun cdv A outer s H vs Q E hr h => ?_)
  · rcases h with ⟨z, rfl, _⟩ | ⟨v, rfl, _⟩ <;> rfl
  · obtain ⟨tL, mLONGEST_WORD⟩ := T.m_LONGEST_WORD
    refine ⟨_, PSs.nox (pss_cons (ps_if (PW.pt (pw_or (pt_not (pt_val (pe_callB call_isi (by rfl) T.b_isinstance (by decide +kernel) (pa_cons (pv 0) (pa_cons (pe_bltn (v := .ty "str") (u := .type "str") (by rfl) T.b_str (by decide +kernel) rfl) pa_nil))))) (pw_or1 (pt_not (pt_chain op_le op_le pe_int (pe_callB call_len_str (by rfl) T.b_len PySem.boot_len (pa_cons (pv 0) pa_nil)) (pe_glob (by rfl) mLONGEST_WORD (show RelV (.int (8)) _ from ⟨_, rfl⟩))))))) (pss_one (ps_ret pe_bl)) pss_nil)
      (pss_one (ps_ret (pe_callB (cr_all rfl) (by rfl) T.b_all (by decide +kernel) (pa_cons (pe_lc (own := [("letter", 1)]) (g := (gName 1)) (by rfl) sc_is_word.nd (pi_str (pv 0)) (blkOk_by (N := n_is_word) (sc := defScope s_is_word) (by decide +kernel)) (fun _ _ _ _ _ => (pg_name (i := 1) sc_is_word.nd rfl (.inl rfl))) (fun _ _ _ _ _ => pts_nil) (fun _ _ _ _ _ => (pe_chain op_le_str op_le_str pe_str (pv 1) pe_str))) pa_nil))))), ?_⟩
    rcases h with ⟨z, rfl, hl, k⟩ | ⟨v, rfl, ⟨ty, n1, n2⟩, k⟩
    rotate_left
    · refine ⟨_, rfl, v, .ty "str", _, _, false, rfl, .ty _, n1, n2, _, rfl, ?_⟩
      refine iteT ?_
      refine iteT ?_
      exact k
    refine ⟨_, rfl, .str z, .ty "str", _, _, true, rfl, .ty _, .base (.str z), kit_ty (by decide +kernel), _, rfl, ?_⟩
    refine iteF ?_
    refine tchainC (i := 1) (j := (z.length : Int)) (c := 8) val_c (fun Q q => ⟨_, rfl, _, rfl, hl, q⟩) ⟨_, rfl, ?_⟩
    cases e : (decide (1 ≤ (z.length : Int)) && decide ((z.length : Int) ≤ 8)) with
    | false =>
      refine iteT ?_
      have e2 : isWord z = false := by unfold isWord; rw [e]; rfl
      rw [← e2]
      exact k H (Same.refl H)
    | true =>
      refine iteF ?_
      refine ⟨_, rfl, _, rfl, fun D nD => ?_⟩
      refine lc_it (walk_str (z := z)) (fun i H' => H' = upd H D (.lst (((z.cps.toList.map lowC).take i).map V.bl))) rfl (fun _ _ _ _ => trivial) (fun i x H1 H2 hi p y => ?_) (fun H1 p => ?_)
      · obtain ⟨rfl, c, hc, rfl⟩ := y
        subst p
        refine ⟨rfl, ?_⟩
        refine tYes_ ?_
        refine iteT ?_
        refine tchainS (i := "a") (j := ⟨#[c]⟩) (c := "z") val_c (val_var rfl) ?_
        refine ⟨_, upd_same, ?_, ?_⟩
        · rw [List.length_map, List.length_take, List.length_map]
          refine small1000 ?_
          simp only [Bool.and_eq_true, decide_eq_true_eq] at e
          have : z.cps.toList.length = z.length := by simp [Str.length]
          omega
        · rw [upd_upd]
          have hc' : (z.cps.toList.map lowC)[i]? = some (lowC c) := by
            rw [List.getElem?_map, Array.getElem?_toList, hc]; rfl
          rw [take_more hc', List.map_append]
          rfl
      · subst p
        refine ⟨D, z.cps.toList.map lowC, rfl, SqL.of ?_, ?_⟩
        · rw [upd_same, List.take_of_length_le (by simp)]
        · have e2 : isWord z = (z.cps.toList.map lowC).all id := by unfold isWord; rw [e]; rfl
          rw [← e2]
          exact k _ (Same.new nD)
theorem ok_is_integer {f : Addr} {fd : FuncData} (F : FnP K "is_integer" "is_integer" s_is_integer f fd) (T : Tx w K mg) : FnOk P w K mg base CX0 1 f fd p_is_integer spIsInt := by
  refine F.ok sc_is_integer (fun vs H Q E h => ?_) (fun cdv A outer s H vs Q E hr h => ?_)
  · obtain ⟨v, b, rfl, _⟩ := h
    rfl
  · obtain ⟨v, b, rfl, hv, k⟩ := h
    refine ⟨_, PSs.nox (pss_one (ps_ret (pe_and (pe_callB call_isi (by rfl) T.b_isinstance (by decide +kernel) (pa_cons (pv 0) (pa_cons (pe_bltn (v := .ty "int") (u := .type "int") (by rfl) T.b_int (by decide +kernel) rfl) pa_nil))) (pe_one (pe_not (pe_callB call_isi (by rfl) T.b_isinstance (by decide +kernel) (pa_cons (pv 0) (pa_cons (pe_bltn (v := .ty "bool") (u := .type "bool") (by rfl) T.b_bool (by decide +kernel) rfl) pa_nil)))))))), ?_⟩
    rcases hv with ⟨i, rfl, rfl⟩ | ⟨c, rfl, rfl⟩ | ⟨z, rfl, rfl⟩
    · refine ⟨_, rfl, .int i, .ty "int", _, _, true, rfl, .ty _, .base (.int i), kit_ty (by decide +kernel), _, rfl, ?_⟩
      refine iteT ⟨_, rfl, .int i, .ty "bool", _, _, false, rfl, .ty _, .base (.int i), kit_ty (by decide +kernel), _, rfl, ?_⟩
      exact k
    · refine ⟨_, rfl, .bl c, .ty "int", _, _, true, rfl, .ty _, .base (.bl c), kit_ty (by decide +kernel), _, rfl, ?_⟩
      refine iteT ⟨_, rfl, .bl c, .ty "bool", _, _, true, rfl, .ty _, .base (.bl c), kit_ty (by decide +kernel), _, rfl, ?_⟩
      exact k
    · refine ⟨_, rfl, .str z, .ty "int", _, _, false, rfl, .ty _, .base (.str z), kit_ty (by decide +kernel), _, rfl, ?_⟩
      exact iteF k

theorem ok_are_words {f : Addr} {fd : FuncData} (F : FnP K "are_words" "are_words" s_are_words f fd) (T : Tx w K mg) (G_is_word : Def P w K mg base CX0 1 "is_word" p_is_word (spIsWord K)) : FnOk P w K mg base CX0 2 f fd p_are_words (spAreWords K) := by
  refine F.ok sc_are_words (fun vs H Q E h => ?_) (fun cdv A outer s H vs Q E hr h => ?_)
  · obtain ⟨v, m, rfl, _⟩ := h
    rfl
  · obtain ⟨v, m, rfl, h⟩ := h
    refine ⟨_, PSs.nox (pss_cons (ps_if (PW.pt (pw_or (pt_not (pt_val (pe_callB call_isi (by rfl) T.b_isinstance (by decide +kernel) (pa_cons (pv 0) (pa_cons (pe_bltn (v := .ty "tuple") (u := .type "tuple") (by rfl) T.b_tuple (by decide +kernel) rfl) pa_nil))))) (pw_or1 (pt_not (pt_chain op_le op_le pe_int (pe_callB call_len_seq (by rfl) T.b_len PySem.boot_len (pa_cons (pv 0) pa_nil)) (pv 1)))))) (pss_one (ps_ret pe_bl)) pss_nil)
      (pss_one (ps_ret (pe_and (pe_callB (cr_all rfl) (by rfl) T.b_all (by decide +kernel) (pa_cons (pe_lc (own := [("word", 2)]) (g := (gName 2)) (by rfl) sc_are_words.nd (pi_tup (pv 0)) (blkOk_by (N := n_are_words) (sc := defScope s_are_words) (by decide +kernel)) (fun _ _ _ _ _ => (pg_name (i := 2) sc_are_words.nd rfl (.inl rfl))) (fun _ _ _ _ _ => pts_nil) (fun _ _ _ _ _ => (pe_fn G_is_word (hr.mono (by decide)) (by rfl) pass0 (pa_cons (pv 2) pa_nil)))) pa_nil)) (pe_one (pe_cmpR op_eq (pe_lenU rfl (by rfl) T.b_len (by rfl) T.b_set (pv 0)) (pe_callB call_len_seq (by rfl) T.b_len PySem.boot_len (pa_cons (pv 0) pa_nil)) (nomark _))))))), ?_⟩
    rcases h with ⟨a, ws, rfl, ha, hz, few, k⟩ | ⟨⟨ty, n1, n2⟩, k⟩
    rotate_left
    · refine ⟨_, rfl, v, .ty "tuple", _, _, false, rfl, .ty _, n1, n2, _, rfl, ?_⟩
      refine iteT ?_
      refine iteT ?_
      exact k
    refine ⟨_, rfl, .ref a, .ty "tuple", _, _, true, rfl, .ty _, tyT ha, kit_ty (by decide +kernel), _, rfl, ?_⟩
    refine iteF ?_
    refine tchainC' (i := 1) (j := (ws.length : Int)) (c := m) ?_ ?_ ?_ ?_
    · exact val_c
    · exact fun Q q => ⟨_, rfl, a, _, rfl, .inr ha, by rw [List.length_map]; exact q⟩
    · exact val_var rfl
    refine ⟨_, rfl, ?_⟩
    cases e : (decide (1 ≤ (ws.length : Int)) && decide ((ws.length : Int) ≤ m)) with
    | false =>
      refine iteT ?_
      have e2 : areW m ws = false := by unfold areW; rw [e]; rfl
      rw [← e2]
      exact k H (Same.refl H)
    | true =>
      refine iteF ?_
      refine ⟨_, rfl, a, rfl, ⟨_, ha⟩, fun D nD => ?_⟩
      refine lc_it (walk_tup (K := K) (a := a) (xs := ws.map V.str)) (fun i H' => Same H H' ∧ H' D = some (.lst (((ws.map isWord).take i).map V.bl))) ⟨Same.new nD, upd_same⟩ (fun i H' _ q => sameT q.1 ha) (fun i x H1 H2 hi p y => ?_) (fun H1 p => ?_)
      · obtain ⟨rfl, hx⟩ := y
        obtain ⟨S, hD⟩ := p
        rw [List.getElem?_map] at hx
        cases ez : ws[i]? with
        | none => rw [ez] at hx; cases hx
        | some z =>
          rw [ez] at hx
          cases Option.some.inj hx
          refine ⟨rfl, ?_⟩
          refine tYes_ ?_
          refine iteT ?_
          refine ⟨_, rfl, .inl ⟨z, rfl, hz z (List.mem_of_getElem? ez), fun H2 S2 => ?_⟩⟩
          refine ⟨_, S2 _ _ hD, ?_, fun b o hb => ?_, ?_⟩
          · rw [List.length_map, List.length_take, List.length_map]
            exact small1000 (by omega)
          · rw [upd_ne (ne_of_none hb nD)]
            exact S2 _ _ (S _ _ hb)
          · rw [upd_same, take_more (x := isWord z) (by rw [List.getElem?_map, ez]; rfl), List.map_append]
            rfl
      · obtain ⟨S, hD⟩ := p
        refine ⟨D, ws.map isWord, rfl, SqL.of (by rw [hD, List.length_map, List.take_of_length_le (by simp)]), ?_⟩
        have e2 : areW m ws = ((ws.map isWord).all id && decide (V.int (uniq ws).length = V.int ws.length)) := by unfold areW; rw [e]; rfl
        refine ⟨_, rfl, ?_⟩
        cases e3 : (ws.map isWord).all id with
        | false =>
          refine iteF ?_
          rw [e3] at e2
          have e4 : areW m ws = false := e2
          rw [← e4]
          exact k _ S
        | true =>
          rw [e3] at e2
          refine iteT ⟨_, rfl, a, ws, rfl, sameT S ha, by have : scanBound = 4096 := rfl; omega, ?_⟩
          refine ⟨_, rfl, a, _, rfl, .inr (sameT S ha), rfl, ?_⟩
          rw [List.length_map]
          have e4 : areW m ws = decide (V.int (uniq ws).length = V.int ws.length) := e2
          rw [← e4]
          exact k _ S
end
end OR

set_option Elab.async false
set_option maxRecDepth 100000
set_option maxHeartbeats 4000000
set_option linter.all false
namespace OR
open PySem PySem.Spec PyProof.Rows L2 TS2
theorem cut1 {x : V} {rs : List V} : cutV (x :: rs) (some 1) none = rs := by
  unfold cutV
  simp [HT.sIx]
theorem not_whole {n : Nat} : ¬ (HT.sIx (n + 1) 0 (some 1) = 0 ∧ HT.sIx (n + 1) (n + 1) none = n + 1) := by
  rintro ⟨z, _⟩
  simp [HT.sIx] at z
theorem kids_snoc {R : Type} (ps : List (Pt R)) (p : Pt R) : kids (ps ++ [p]) = kids ps ++ kidsP p := by unfold kids; simp
theorem named_snoc {R : Type} (which fs : List Str) (ps : List (Pt R)) (f : Str) (p : Pt R) (h : fs.length = ps.length) : named which (fs ++ [f]) (ps ++ [p]) = named which fs ps ++ (if f ∈ which then wordsP p else []) := by
  unfold named
  rw [List.zip_append h]
  simp
theorem kids_take_le {R : Type} (ps : List (Pt R)) (i : Nat) : (kids (ps.take i)).length ≤ (kids ps).length := by
  conv => rhs; rw [← List.take_append_drop i ps]
  unfold kids
  rw [List.map_append, List.flatten_append, List.length_append]
  omega
theorem zip_take {α β : Type} : ∀ (xs : List α) (ys : List β) (i : Nat), (xs.take i).zip (ys.take i) = (xs.zip ys).take i
  | [], _, _ => by simp
  | x :: xs, [], i => by simp
  | x :: xs, y :: ys, 0 => by simp
  | x :: xs, y :: ys, i + 1 => by simp [zip_take xs ys i]
theorem named_take_le {R : Type} (which fs : List Str) (ps : List (Pt R)) (i : Nat) : (named which (fs.take i) (ps.take i)).length ≤ (named which fs ps).length := by
  unfold named
  have e : (fs.take i).zip (ps.take i) = (fs.zip ps).take i := zip_take fs ps i
  rw [e]
  conv => rhs; rw [← List.take_append_drop i (fs.zip ps)]
  rw [List.map_append, List.flatten_append, List.length_append]
  omega
theorem inV_words {f : Str} : ∀ (ws : List Str), inV (.str f) (ws.map V.str) = decide (f ∈ ws)
  | [] => rfl
  | x :: ws => by
    have ih := inV_words (f := f) ws
    unfold inV at ih ⊢
    rw [List.map_cons, List.any_cons, ih]
    show ((x == f) || decide (f ∈ ws)) = decide (f ∈ x :: ws)
    by_cases e : x = f
    · subst e; simp
    · have e' : ¬ f = x := fun z => e z.symm
      have b : (x == f) = false := by simpa [beq_iff_eq] using e
      simp [b, e']
theorem flat_words (ws : List Str) : (ws.map V.str).all flatV = true := by
  rw [List.all_map, List.all_eq_true]
  intro x _
  rfl
theorem Kp.D {H0 H1 H2 : Hp} {D : Addr} (S : Same H0 H1) (k : Kp (· = D) H1 H2) (n : H0 D = none) : Same H0 H2 := fun b o hb => k b o (S b o hb) fun z => by rw [z, n] at hb; cases hb
def spListsOf (K : PySem.W.Frag) : Sp := fun vs H Q _ => ∃ (v : V) (H0 : Hp) (d : Nat) (r : Row (d + 1)) (fs : List Str), vs = [v] ∧ RowAt K H0 (d + 1) r v ∧ Same H0 H ∧ (r.1, fs) ∈ ftab ∧ KindsOk fs r.2 ∧ (kids r.2).length ≤ 1000 ∧
  ∀ (H' : Hp) (D : Addr) (xs : List V), Same H H' → H D = none → H' D = some (.lst xs) → All2 (LstAt H0 (RowAt K H0 d)) (kids r.2) xs → Q (.ref D) H'
def spNamed (K : PySem.W.Frag) : Sp := fun vs H Q _ => ∃ (v : V) (t : Addr) (which : List Str) (H0 : Hp) (d : Nat) (r : Row (d + 1)) (fs : List Str), vs = [v, .ref t] ∧ SqT K H t (which.map V.str) ∧ RowAt K H0 (d + 1) r v ∧ Same H0 H ∧ (r.1, fs) ∈ ftab ∧ KindsOk fs r.2 ∧
  (∀ f ∈ which, f ≠ "rows" ∧ f ≠ "sides") ∧ (named which fs r.2).length ≤ 1000 ∧ ∀ (H' : Hp) (D : Addr), Same H H' → H D = none → H' D = some (.lst ((named which fs r.2).map V.str)) → Q (.ref D) H'
section
variable {P : Program} {w : World} {K : PySem.W.Frag} {mg : Str → Option Value} {base : Heap}
theorem ok_lists_of {f : Addr} {fd : FuncData} (F : FnP K "lists_of" "lists_of" s_lists_of f fd) (T : Tx w K mg) : FnOk P w K mg base CX0 1 f fd p_lists_of (spListsOf K) := by
  refine F.ok sc_lists_of (fun vs H Q E h => ?_) (fun cdv A outer s H vs Q E hr h => ?_)
  · obtain ⟨v, _, _, _, _, rfl, _⟩ := h
    rfl
  · obtain ⟨v, H0, d, r, fs, rfl, ⟨a, vs, rfl, ha, hp⟩, S0, hf, hk, few, k⟩ := h
    refine ⟨_, PSs.nox (pss_cons (ps_set (i := 1) sc_lists_of.nd rfl (.inl rfl) (pe_lst pa_nil))
      (pss_cons (ps_for PassesOwn.never rfl (RZ.pi_zipA (by rfl) T.b_zip (pa_cons (pe_ix ix_kdict (pe_ref (by rfl) T.m_FORMS) (pe_ix ix_tup (pv 0) pe_int (fun _ _ => rfl)) (fun _ _ => rfl)) (pa_cons (pe_slice sl_tup (pv 0) (po_some pe_int) po_none) pa_nil))) (pg_tup (by rfl) (pgs_cons (pg_name (i := 2) sc_lists_of.nd rfl (.inl rfl)) (pgs_cons (pg_name (i := 3) sc_lists_of.nd rfl (.inl rfl)) pgs_nil))) (pss_one (ps_if (pt_cmpR op_eq (pv 2) pe_str (nomark _)) (pss_one (ps_expr (pe_bm PySem.F.plainAttrs_list PySem.F.slot_list_append PySem.F.type_list_append mt_append (pv 1) (pa_cons (pv 3) pa_nil)))) (pss_one (ps_if (pt_cmpR op_eq (pv 2) pe_str (nomark _)) (pss_one (ps_expr (pe_bm PySem.F.plainAttrs_list PySem.F.slot_list_extend PySem.F.type_list_extend mt_extendT (pv 1) (pa_cons (pv 3) pa_nil)))) pss_nil)))))
      (pss_one (ps_ret (pv 1))))), ?_⟩
    refine ⟨by show 0 ≤ sizeLine; decide, fun D nD => ?_⟩
    have S1 : Same H (upd H D (.lst [])) := Same.new nD
    have hD : upd H D (.lst []) D = some (.lst []) := upd_same
    generalize upd H D (.lst []) = H1 at S1 hD ⊢
    have ha1 := sameT (S0.trans S1) ha
    obtain ⟨p, e1, hp1⟩ := T.forms _ hf
    refine ⟨_, rfl, a, _, _, .str r.1, rfl, rfl, ha1, at0, _, _, .ref p, rfl, rfl, kdct T.D_FORMS e1 rfl, ?_⟩
    refine ⟨_, rfl, 1, rfl, a, _, rfl, ha1, by rw [List.length_cons]; exact not_whole, fun q nq => ?_⟩
    rw [cut1]
    have S2 : Same H1 (upd H1 q (.tup vs)) := Same.new nq
    have hq : upd H1 q (.tup vs) q = some (.tup vs) := upd_same
    generalize upd H1 q (.tup vs) = H2 at S2 hq ⊢
    refine ⟨p, q, fs.map V.str, vs, rfl, .inr ⟨hp1 _, SqT.of hq, ?_⟩⟩
    have lf : fs.length = vs.length := hk.len.trans hp.len
    refine for_it (walk_zipT (K := K) (a := p) (b := q) (xs := fs.map V.str) (ys := vs) (n := vs.length) (by rw [List.length_map, lf]; simp)) (fun i σ' H' => (∃ x y, σ' = [some (.ref a), some (.ref D), x, y]) ∧ Kp (· = D) H2 H' ∧ ∃ xs, H' D = some (.lst xs) ∧ All2 (LstAt H0 (RowAt K H0 d)) (kids (r.2.take i)) xs)
      ⟨⟨none, none, rfl⟩, Kp.refl _, [], S2 _ _ hD, .nil⟩ (fun i σ' H' _ p0 => ?_) (fun i x σ' H3 H4 hi p0 y => ?_) (fun σ' H' p0 => ?_)
    · obtain ⟨_, kp, _⟩ := p0
      exact ⟨hp1 _, SqT.of (kp _ _ hq (fun z => by rw [z, S2 _ _ hD] at hq; cases hq))⟩
    · obtain ⟨⟨x0, y0, rfl⟩, kp, xs, hx, hxs⟩ := p0
      obtain ⟨T1, fm, pv0, rfl, nT, rfl, hfm, hpv⟩ := y
      have hfm : (fs.map V.str)[i]? = some fm := hfm
      have hpv : vs[i]? = some pv0 := hpv
      rw [List.getElem?_map] at hfm
      cases ef : fs[i]? with
      | none => rw [ef] at hfm; cases hfm
      | some f0 =>
        rw [ef] at hfm
        cases Option.some.inj hfm
        obtain ⟨pt, hpt, hpat⟩ := hp.other hpv
        have ko := hk.at_ ef hpt
        have hx4 : upd H3 T1 (.tup [.str f0, pv0]) D = some (.lst xs) := by rw [upd_ne (ne_of_none hx nT)]; exact hx
        have kp4 : Kp (· = D) H2 (upd H3 T1 (.tup [.str f0, pv0])) := kp.trans (Kp.of (Same.new nT))
        have kl := kids_take_le r.2 (i + 1)
        rw [take_more hpt, kids_snoc, List.length_append] at kl
        have lx := hxs.len
        refine ⟨T1, _, rfl, SqT.of upd_same, rfl, _, _, rfl, _, _, rfl, rfl, ?_⟩
        generalize upd H3 T1 (.tup [.str f0, pv0]) = H5 at hx4 kp4 ⊢
        have fin : ∀ zs, xs.length + zs.length ≤ 1000 → All2 (LstAt H0 (RowAt K H0 d)) (kidsP pt) zs → Kp (· = D) H2 (upd H5 D (.lst (xs ++ zs))) ∧ ∃ ys, upd H5 D (.lst (xs ++ zs)) D = some (.lst ys) ∧ All2 (LstAt H0 (RowAt K H0 d)) (kids (r.2.take (i + 1))) ys := fun zs _ hz =>
          ⟨kp4.trans (Kp.put rfl), _, upd_same, by rw [take_more hpt, kids_snoc]; exact hxs.app hz⟩
        refine ⟨_, rfl, rfl, _, rfl, ?_⟩
        cases pt with
        | rows l =>
          have ef0 : f0 = "rows" := by simpa [kindOk] using ko
          subst ef0
          refine iteT' (by decide +kernel) ?_
          obtain ⟨b, ys, rfl, hb, hys⟩ := hpat
          have z1 : xs.length + 1 ≤ 1000 := by simp [kidsP] at kl; omega
          refine ⟨_, rfl, .inl ⟨rfl, _, SqL.of hx4⟩, _, rfl, D, xs, .ref b, rfl, rfl, hx4, small1000 (by omega), ?_⟩
          exact ⟨⟨_, _, rfl⟩, fin [.ref b] z1 (.one ⟨b, ys, rfl, hb, hys⟩)⟩
        | sides ls =>
          have ef0 : f0 = "sides" := by simpa [kindOk] using ko
          subst ef0
          refine iteF' (by decide +kernel) ?_
          refine ⟨_, rfl, rfl, _, rfl, ?_⟩
          refine iteT' (by decide +kernel) ?_
          obtain ⟨b, ys, rfl, hb, hys⟩ := hpat
          have z1 : xs.length + ys.length ≤ 1000 := by have := hys.len; simp [kidsP] at kl; omega
          refine ⟨_, rfl, .inl ⟨rfl, _, SqL.of hx4⟩, _, rfl, D, b, xs, ys, rfl, rfl, hx4, ?_, Nat.le_of_lt (small1000 z1), ?_⟩
          · exact sameT (Kp.base (S0.trans (S1.trans S2)) kp4 (fun c e => by subst e; exact S0.free nD)) hb
          exact ⟨⟨_, _, rfl⟩, fin ys z1 hys⟩
        | word s0 =>
          have n1 : f0 ≠ "rows" ∧ f0 ≠ "sides" := by simp [kindOk] at ko; exact ⟨ko.1.1.1, ko.1.1.2⟩
          refine iteF' (decide_eq_false fun z => n1.1 (by injection z)) ?_
          refine ⟨_, rfl, rfl, _, rfl, ?_⟩
          refine iteF' (decide_eq_false fun z => n1.2 (by injection z)) ?_
          refine ⟨⟨_, _, rfl⟩, kp4, xs, hx4, ?_⟩
          rw [take_more hpt, kids_snoc]
          simpa [kidsP] using hxs
        | words l0 =>
          have n1 : f0 ≠ "rows" ∧ f0 ≠ "sides" := by
            simp [kindOk] at ko
            rcases ko with rfl | rfl <;> exact ⟨by decide +kernel, by decide +kernel⟩
          refine iteF' (decide_eq_false fun z => n1.1 (by injection z)) ?_
          refine ⟨_, rfl, rfl, _, rfl, ?_⟩
          refine iteF' (decide_eq_false fun z => n1.2 (by injection z)) ?_
          refine ⟨⟨_, _, rfl⟩, kp4, xs, hx4, ?_⟩
          rw [take_more hpt, kids_snoc]
          simpa [kidsP] using hxs
    · obtain ⟨⟨x0, y0, rfl⟩, kp, xs, hx, hxs⟩ := p0
      rw [← hp.len, List.take_length] at hxs
      exact ⟨_, rfl, k H' D xs (fun b o hb => kp b o (S2 b o (S1 b o hb)) (fun z => by rw [z, nD] at hb; cases hb)) nD hx hxs⟩
theorem ok_words_named {f : Addr} {fd : FuncData} (F : FnP K "words_named" "words_named" s_words_named f fd) (T : Tx w K mg) : FnOk P w K mg base CX0 1 f fd p_words_named (spNamed K) := by
  refine F.ok sc_words_named (fun vs H Q E h => ?_) (fun cdv A outer s H vs Q E hr h => ?_)
  · obtain ⟨v, t, _, _, _, _, _, rfl, _⟩ := h
    rfl
  · obtain ⟨v, t, which, H0, d, r, fs, rfl, ht, ⟨a, vs, rfl, ha, hp⟩, S0, hf, hk, nk, few, k⟩ := h
    refine ⟨_, PSs.nox (pss_cons (ps_set (i := 2) sc_words_named.nd rfl (.inl rfl) (pe_lst pa_nil))
      (pss_cons (ps_for PassesOwn.never rfl (RZ.pi_zipA (by rfl) T.b_zip (pa_cons (pe_ix ix_kdict (pe_ref (by rfl) T.m_FORMS) (pe_ix ix_tup (pv 0) pe_int (fun _ _ => rfl)) (fun _ _ => rfl)) (pa_cons (pe_slice sl_tup (pv 0) (po_some pe_int) po_none) pa_nil))) (pg_tup (by rfl) (pgs_cons (pg_name (i := 3) sc_words_named.nd rfl (.inl rfl)) (pgs_cons (pg_name (i := 4) sc_words_named.nd rfl (.inl rfl)) pgs_nil))) (pss_one (ps_if (PW.pt (pw_and (pt_cmpR op_in_seq (pv 3) (pv 1) (by rfl)) (pw_and1 (pt_val (pe_callB call_isi (by rfl) T.b_isinstance (by decide +kernel) (pa_cons (pv 4) (pa_cons (pe_bltn (v := .ty "tuple") (u := .type "tuple") (by rfl) T.b_tuple (by decide +kernel) rfl) pa_nil))))))) (pss_one (ps_expr (pe_bm PySem.F.plainAttrs_list PySem.F.slot_list_extend PySem.F.type_list_extend mt_extendT (pv 2) (pa_cons (pv 4) pa_nil)))) (pss_one (ps_if (pt_cmpR op_in_seq (pv 3) (pv 1) (by rfl)) (pss_one (ps_expr (pe_bm PySem.F.plainAttrs_list PySem.F.slot_list_append PySem.F.type_list_append mt_append (pv 2) (pa_cons (pv 4) pa_nil)))) pss_nil)))))
      (pss_one (ps_ret (pv 2))))), ?_⟩
    refine ⟨by show 0 ≤ sizeLine; decide, fun D nD => ?_⟩
    have S1 : Same H (upd H D (.lst [])) := Same.new nD
    have hD : upd H D (.lst []) D = some (.lst []) := upd_same
    generalize upd H D (.lst []) = H1 at S1 hD ⊢
    have ha1 := sameT (S0.trans S1) ha
    obtain ⟨p, e1, hp1⟩ := T.forms _ hf
    refine ⟨_, rfl, a, _, _, .str r.1, rfl, rfl, ha1, at0, _, _, .ref p, rfl, rfl, kdct T.D_FORMS e1 rfl, ?_⟩
    refine ⟨_, rfl, 1, rfl, a, _, rfl, ha1, by rw [List.length_cons]; exact not_whole, fun q nq => ?_⟩
    rw [cut1]
    have S2 : Same H1 (upd H1 q (.tup vs)) := Same.new nq
    have hq : upd H1 q (.tup vs) q = some (.tup vs) := upd_same
    generalize upd H1 q (.tup vs) = H2 at S2 hq ⊢
    refine ⟨p, q, fs.map V.str, vs, rfl, .inr ⟨hp1 _, SqT.of hq, ?_⟩⟩
    have lf : fs.length = vs.length := hk.len.trans hp.len
    refine for_it (walk_zipT (K := K) (a := p) (b := q) (xs := fs.map V.str) (ys := vs) (n := vs.length) (by rw [List.length_map, lf]; simp)) (fun i σ' H' => (∃ x y, σ' = [some (.ref a), some (.ref t), some (.ref D), x, y]) ∧ Kp (· = D) H2 H' ∧ H' D = some (.lst ((named which (fs.take i) (r.2.take i)).map V.str)))
      ⟨⟨none, none, rfl⟩, Kp.refl _, S2 _ _ hD⟩ (fun i σ' H' _ p0 => ?_) (fun i x σ' H3 H4 hi p0 y => ?_) (fun σ' H' p0 => ?_)
    · obtain ⟨_, kp, _⟩ := p0
      exact ⟨hp1 _, SqT.of (kp _ _ hq (fun z => by rw [z, S2 _ _ hD] at hq; cases hq))⟩
    · obtain ⟨⟨x0, y0, rfl⟩, kp, hx⟩ := p0
      obtain ⟨T1, fm, pv0, rfl, nT, rfl, hfm, hpv⟩ := y
      have hfm : (fs.map V.str)[i]? = some fm := hfm
      have hpv : vs[i]? = some pv0 := hpv
      rw [List.getElem?_map] at hfm
      cases ef : fs[i]? with
      | none => rw [ef] at hfm; cases hfm
      | some f0 =>
        rw [ef] at hfm
        cases Option.some.inj hfm
        obtain ⟨pt, hpt, hpat⟩ := hp.other hpv
        have ko := hk.at_ ef hpt
        have lt : (fs.take i).length = (r.2.take i).length := by rw [List.length_take, List.length_take, hk.len]
        have hx4 : upd H3 T1 (.tup [.str f0, pv0]) D = some (.lst ((named which (fs.take i) (r.2.take i)).map V.str)) := by rw [upd_ne (ne_of_none hx nT)]; exact hx
        have kp4 : Kp (· = D) H2 (upd H3 T1 (.tup [.str f0, pv0])) := kp.trans (Kp.of (Same.new nT))
        have kl := named_take_le which fs r.2 (i + 1)
        rw [take_more hpt, take_more ef, named_snoc _ _ _ _ _ lt, List.length_append] at kl
        refine ⟨T1, _, rfl, SqT.of upd_same, rfl, _, _, rfl, _, _, rfl, rfl, ?_⟩
        generalize upd H3 T1 (.tup [.str f0, pv0]) = H5 at hx4 kp4 ⊢
        have S5 : Same H0 H5 := Kp.base (S0.trans (S1.trans S2)) kp4 (fun c e => by subst e; exact S0.free nD)
        have ht5 : SqT K H5 t (which.map V.str) := sameT (Kp.D (S1.trans S2) kp4 nD) ht
        have fin : ∀ zs : List Str, (if f0 ∈ which then wordsP pt else []) = zs → Kp (· = D) H2 (upd H5 D (.lst ((named which (fs.take i) (r.2.take i)).map V.str ++ zs.map V.str))) ∧ upd H5 D (.lst ((named which (fs.take i) (r.2.take i)).map V.str ++ zs.map V.str)) D = some (.lst ((named which (fs.take (i + 1)) (r.2.take (i + 1))).map V.str)) := fun zs hz =>
          ⟨kp4.trans (Kp.put rfl), by rw [upd_same, take_more hpt, take_more ef, named_snoc _ _ _ _ _ lt, hz, List.map_append]⟩
        refine ⟨_, rfl, _, rfl, t, _, rfl, .inr ht5, rfl, flat_words _, _, rfl, ?_⟩
        have e3 : (if false = true then !inV (.str f0) (which.map V.str) else inV (.str f0) (which.map V.str)) = decide (f0 ∈ which) := inV_words _
        have again : ∀ {A B : Prop}, (f0 ∈ which → A) → (f0 ∉ which → B) → if (if false = true then !inV (.str f0) (which.map V.str) else inV (.str f0) (which.map V.str)) = true then A else B := fun {A B} h1 h2 => by
          rw [e3]
          by_cases c : f0 ∈ which
          · rw [if_pos (decide_eq_true c)]; exact h1 c
          · rw [if_neg (by simp [c])]; exact h2 c
        refine again (fun c => ?_) (fun c => ?_)
        · obtain ⟨c1, c2⟩ := nk f0 c
          cases pt with
          | rows l => exact absurd (show f0 = "rows" by simpa [kindOk] using ko) c1
          | sides l => exact absurd (show f0 = "sides" by simpa [kindOk] using ko) c2
          | words l =>
            obtain ⟨b, rfl, hb⟩ := hpat
            refine ⟨_, rfl, .ref b, .ty "tuple", _, _, true, rfl, .ty _, tyT (sameT S5 hb), kit_ty (by decide +kernel), _, rfl, ?_⟩
            refine iteT ?_
            rw [if_pos c] at kl
            have z1 : ((named which (fs.take i) (r.2.take i)).map V.str).length + (l.map V.str).length ≤ 1000 := by rw [List.length_map, List.length_map]; simp [wordsP] at kl; omega
            refine ⟨_, rfl, .inl ⟨rfl, _, SqL.of hx4⟩, _, rfl, D, b, _, _, rfl, rfl, hx4, sameT S5 hb, Nat.le_of_lt (small1000 z1), ?_⟩
            exact ⟨⟨_, _, rfl⟩, fin l (by rw [if_pos c]; rfl)⟩
          | word s0 =>
            cases (show pv0 = .str s0 from hpat)
            refine ⟨_, rfl, .str s0, .ty "tuple", _, _, false, rfl, .ty _, .base (.str _), kit_ty (by decide +kernel), _, rfl, ?_⟩
            refine iteF ?_
            refine ⟨_, rfl, _, rfl, t, _, rfl, .inr ht5, rfl, flat_words _, _, rfl, ?_⟩
            refine again (fun _ => ?_) (fun c' => absurd c c')
            rw [if_pos c] at kl
            have z1 : ((named which (fs.take i) (r.2.take i)).map V.str).length ≤ 1000 := by rw [List.length_map]; omega
            refine ⟨_, rfl, .inl ⟨rfl, _, SqL.of hx4⟩, _, rfl, D, _, .str s0, rfl, rfl, hx4, small1000 z1, ?_⟩
            exact ⟨⟨_, _, rfl⟩, fin [s0] (by rw [if_pos c]; rfl)⟩
        · refine ⟨_, rfl, _, rfl, t, _, rfl, .inr ht5, rfl, flat_words _, _, rfl, ?_⟩
          refine again (fun c' => absurd c' c) (fun _ => ?_)
          refine ⟨⟨_, _, rfl⟩, kp4, ?_⟩
          rw [hx4, take_more hpt, take_more ef, named_snoc _ _ _ _ _ lt, if_neg c, List.append_nil]
    · obtain ⟨⟨x0, y0, rfl⟩, kp, hx⟩ := p0
      rw [← lf, List.take_length, lf, ← hp.len, List.take_length] at hx
      exact ⟨_, rfl, k H' D (Kp.D (S1.trans S2) kp nD) nD hx⟩
end
end OR

set_option Elab.async false
set_option maxRecDepth 100000
set_option maxHeartbeats 4000000
set_option linter.all false
namespace L2
open PySem PySem.Spec PyProof.Rows
/-- a walk within a comprehension: B the turn's reading, from which Pv of the next is to be reached -/
theorem out_it {J : It} {n : Nat} {G : Hp → Prop} {Y : Nat → Hp → V → Hp → Prop} (w : Walk J n G Y) {B : V → Hp → (Hp → Prop) → Prop} {Qd : Hp → Prop} {H1 : Hp} (Pv : Nat → Hp → Prop) (h0 : Pv 0 H1) (hG : ∀ i H, i ≤ n → Pv i H → G H)
    (hs : ∀ i x H H', i < n → Pv i H → Y i H x H' → B x H' (Pv (i + 1))) (hd : ∀ H, Pv n H → Qd H) :
    ∃ W : Nat → Nat → Hp → Prop, (∃ m, W 0 m H1) ∧ ∀ i m H, W i m H → (J.stop i H ∧ Qd H) ∨ (J.go i H ∧ ∃ Nx : Hp → Prop, (∀ H', Nx H' → ∃ m', m' < m ∧ W (i + 1) m' H') ∧ ∀ x H', J.yld i H x H' → B x H' Nx) := by
  refine ⟨fun i m H => m = n - i ∧ i ≤ n ∧ Pv i H, ⟨n, by simp, Nat.zero_le _, h0⟩, ?_⟩
  rintro i m H ⟨rfl, hi, p⟩
  have q := hG i H hi p
  by_cases hlt : i < n
  · exact .inr ⟨w.goes i H hlt q, Pv (i + 1), fun H' p' => ⟨n - (i + 1), by omega, rfl, hlt, p'⟩, fun x H' y => hs i x H H' hlt p (w.yields i H x H' hlt q y)⟩
  · have e : i = n := by omega
    subst e
    exact .inl ⟨w.stops H q, hd H p⟩
/-- a block without captured names, within any scope -/
theorem blkOk_any {N : List Str} {sc scope : Scope} {own : List (Str × Nat)} (h : blkC N { scope with names := [] } scope own = true) : BlkOk N sc scope own := by
  obtain ⟨h1, h2, h3, h4, h5⟩ := blkOk_by h
  exact ⟨h1, h2, h3, fun y hy e => by
    rcases h4 y hy e with z | z <;> simp at z, h5⟩
end L2
namespace OR
open PySem PySem.Spec PyProof.Rows L2 TS2
theorem LstAt.mono {R : Type} {H H' : Hp} {RA RA' : R → V → Prop} {l : List R} {v : V} (s : Same H H') (m : ∀ r v, RA r v → RA' r v) (h : LstAt H RA l v) : LstAt H' RA' l v := by
  obtain ⟨a, xs, rfl, ha, hx⟩ := h
  exact ⟨a, xs, rfl, s _ _ ha, hx.imp fun x y _ q => m x y q⟩
theorem PtAt.mono {K : PySem.W.Frag} {R : Type} {H H' : Hp} {RA RA' : R → V → Prop} {p : Pt R} {v : V} (s : Same H H') (m : ∀ r v, RA r v → RA' r v) (h : PtAt K H RA p v) : PtAt K H' RA' p v := by
  cases p with
  | word z => exact h
  | words l =>
    obtain ⟨a, rfl, ha⟩ := h
    exact ⟨a, rfl, sameT s ha⟩
  | rows l => exact LstAt.mono s m h
  | sides ls =>
    obtain ⟨a, vs, rfl, ha, hx⟩ := h
    exact ⟨a, vs, rfl, sameT s ha, hx.imp fun x y _ q => LstAt.mono s m q⟩
theorem RowAt.mono {K : PySem.W.Frag} {H H' : Hp} (s : Same H H') : ∀ {d : Nat} {r : Row d} {v : V}, RowAt K H d r v → RowAt K H' d r v
  | 0, r, _, _ => nomatch r
  | d + 1, r, v, h => by
    obtain ⟨a, vs, rfl, ha, hx⟩ := h
    exact ⟨a, vs, rfl, sameT s ha, hx.imp fun x y _ q => PtAt.mono s (fun r v q => RowAt.mono s q) q⟩
/-- H where S holds -/
noncomputable def res (S : Addr → Prop) (H : Hp) : Hp := fun b => @ite _ (S b) (Classical.propDecidable _) (H b) none
theorem res_of {S : Addr → Prop} {H : Hp} {b : Addr} (h : S b) : res S H b = H b := by unfold res; rw [if_pos h]
theorem res_some {S : Addr → Prop} {H : Hp} {b : Addr} {o : HO} (h : res S H b = some o) : S b ∧ H b = some o := by
  unfold res at h
  by_cases c : S b
  · rw [if_pos c] at h; exact ⟨c, h⟩
  · rw [if_neg c] at h; cases h
theorem same_res {S S' : Addr → Prop} {H H' : Hp} (h : ∀ b o, S b → H b = some o → S' b ∧ H' b = some o) : Same (res S H) (res S' H') := fun b o e => by
  obtain ⟨c, e⟩ := res_some e
  obtain ⟨c', e'⟩ := h b o c e
  rw [res_of c', e']
theorem res_same {S : Addr → Prop} {H : Hp} : Same (res S H) H := fun b o e => (res_some e).2
/-- of H0, or new -/
def Nw (H0 H : Hp) (b : Addr) : Prop := H0 b ≠ none ∨ H b = none
/-- the forms: rows stand last -/
def cntR (fs : List Str) : Nat := fs.count ("rows" : Str)
theorem ftab_ends : ∀ e ∈ ftab, (e.1 = "both" ∧ e.2 = [("sides" : Str)]) ∨ (e.1 ≠ "both" ∧ (∀ f ∈ e.2.take (e.2.length - cntR e.2), f ≠ "rows" ∧ f ≠ "sides") ∧ e.2.drop (e.2.length - cntR e.2) = List.replicate (cntR e.2) ("rows" : Str)) := by
  decide +kernel
theorem kids_app {R : Type} (a b : List (Pt R)) : kids (a ++ b) = kids a ++ kids b := by
  unfold kids
  rw [List.map_append, List.flatten_append]
theorem kids_plain {R : Type} : ∀ {fs : List Str} {ps : List (Pt R)}, KindsOk fs ps → (∀ f ∈ fs, f ≠ "rows" ∧ f ≠ "sides") → kids ps = []
  | [], [], _, _ => rfl
  | f :: fs, p :: ps, .cons h t, n => by
    have ih := kids_plain t fun g hg => n g (List.mem_cons_of_mem _ hg)
    have e : kids (p :: ps) = kidsP p ++ kids ps := by unfold kids; simp
    rw [e, ih]
    obtain ⟨n1, n2⟩ := n f List.mem_cons_self
    cases p with
    | rows l => exact absurd (show f = "rows" by simpa [kindOk] using h) n1
    | sides l => exact absurd (show f = "sides" by simpa [kindOk] using h) n2
    | word _ => rfl
    | words _ => rfl
theorem kids_rows {R : Type} : ∀ {n : Nat} {ps : List (Pt R)}, KindsOk (List.replicate n ("rows" : Str)) ps → ps = (kids ps).map Pt.rows ∧ (kids ps).length = n
  | 0, [], _ => ⟨rfl, rfl⟩
  | n + 1, p :: ps, h => by
    cases h with
    | cons h t =>
      obtain ⟨e1, e2⟩ := kids_rows (n := n) t
      have e : kids (p :: ps) = kidsP p ++ kids ps := by unfold kids; simp
      cases p with
      | rows l =>
        rw [e]
        refine ⟨?_, ?_⟩
        · show Pt.rows l :: ps = Pt.rows l :: (kids ps).map Pt.rows
          rw [← e1]
        · show (kids ps).length + 1 = n + 1
          rw [e2]
      | sides l => exact absurd h (by simp [kindOk] <;> decide +kernel)
      | word _ => exact absurd h (by simp [kindOk] <;> decide +kernel)
      | words _ => exact absurd h (by simp [kindOk] <;> decide +kernel)
theorem All2.drop {α β : Type} {R : α → β → Prop} {xs : List α} {ys : List β} (h : All2 R xs ys) : ∀ n, All2 R (xs.drop n) (ys.drop n) := by
  induction h with
  | nil => intro n; simp; exact .nil
  | cons h t ih =>
    intro n
    cases n with
    | zero => exact .cons h t
    | succ n => exact ih n
/-- a row of no both: the plain parts, then its lists -/
theorem row_split {R : Type} {w : Str} {fs : List Str} {ps : List (Pt R)} (hf : (w, fs) ∈ ftab) (hk : KindsOk fs ps) : (w = "both" ∧ ∃ ls, ps = [.sides ls] ∧ kids ps = ls) ∨
    (w ≠ "both" ∧ ∃ n, n + (kids ps).length = ps.length ∧ ps = ps.take n ++ (kids ps).map Pt.rows) := by
  rcases ftab_ends _ hf with ⟨h1, h2⟩ | ⟨h1, h2, h3⟩
  · left
    refine ⟨h1, ?_⟩
    have h2 : fs = [("sides" : Str)] := h2
    subst h2
    cases hk with
    | cons h t =>
      cases t
      rename_i p
      cases p with
      | sides ls => exact ⟨ls, rfl, by simp [kids, kidsP]⟩
      | rows l => exact absurd h (by simp [kindOk] <;> decide +kernel)
      | word _ => exact absurd h (by simp [kindOk] <;> decide +kernel)
      | words _ => exact absurd h (by simp [kindOk] <;> decide +kernel)
  · right
    refine ⟨h1, fs.length - cntR fs, ?_⟩
    have a1 := kids_plain (hk.take (fs.length - cntR fs)) h2
    have h3 : fs.drop (fs.length - cntR fs) = List.replicate (cntR fs) ("rows" : Str) := h3
    have a2 := All2.drop hk (fs.length - cntR fs)
    rw [h3] at a2
    obtain ⟨e1, e2⟩ := kids_rows a2
    have ek : kids ps = kids (ps.drop (fs.length - cntR fs)) := by
      conv => lhs; rw [← List.take_append_drop (fs.length - cntR fs) ps]
      rw [kids_app, a1]
      rfl
    have cl : cntR fs ≤ fs.length := List.count_le_length
    have lp := hk.len
    refine ⟨by rw [ek, e2]; omega, ?_⟩
    conv => lhs; rw [← List.take_append_drop (fs.length - cntR fs) ps]
    rw [ek, ← e1]
def isT : HO → Bool
  | .tup _ => true
  | .frz _ (.tup _) => true
  | _ => false
/-- a tuple stands there, or nothing -/
def NL (B : Hp) (b : Addr) : Prop := ∀ o, B b = some o → isT o = true
theorem NL.of {B H : Hp} (s : Same B H) {b : Addr} (h : NL H b) : NL B b := fun o e => h o (s _ _ e)
theorem NL.new {B : Hp} {b : Addr} (h : B b = none) : NL B b := fun o e => by rw [h] at e; cases e
theorem NL.no {B : Hp} {b : Addr} {o : HO} (h : NL B b) (e : B b = some o) (t : isT o = false) : False := by
  have := h o e
  rw [t] at this
  cases this
theorem sqT_nl {K : PySem.W.Frag} {B Hs H H' : Hp} {a : Addr} {xs : List V} (s0 : Same B H) (s1 : Same Hs H) (s2 : Same H H') (h : SqT K Hs a xs) : SqT K (res (NL B) H') a xs := by
  have nl : ∀ {b : Addr} {o : HO}, Hs b = some o → isT o = true → res (NL B) H' b = some o := fun {b o} e n => by
    rw [res_of (S := NL B) fun o' q => by have := s0 _ _ q; rw [s1 _ _ e] at this; rw [← Option.some.inj this]; exact n]
    exact s2 _ _ (s1 _ _ e)
  rcases h with (h | ⟨o, h⟩) | h
  · exact .inl (.inl (nl h rfl))
  · exact .inl (.inr ⟨o, nl h rfl⟩)
  · exact .inr h
def spWith (K : PySem.W.Frag) : Sp := fun vs H Q _ => ∃ (v : V) (L : Addr) (B Hs Hk : Hp) (d : Nat) (r : Row (d + 1)) (fs : List Str) (xs : List V), vs = [v, .ref L] ∧ RowAt K Hs (d + 1) r v ∧ Same Hs H ∧ Same B H ∧ Same Hk H ∧ (∀ b o, Hk b = some o → NL B b) ∧ (r.1, fs) ∈ ftab ∧ KindsOk fs r.2 ∧ r.2.length ≤ 1000 ∧ (kids r.2).length ≤ 1000 ∧
  H L = some (.lst xs) ∧ All2 (LstAt Hk (RowAt K Hk d)) (kids r.2) xs ∧ ∀ (H' : Hp) (t : Addr), Same H H' → RowAt K (res (NL B) H') (d + 1) r (.ref t) → Q (.ref t) H'
theorem same_nw {Hx H H' : Hp} (s : Same Hx H) (t : Same H H') : Same Hx (res (Nw Hx H) H') := fun b o e => by
  rw [res_of (S := Nw Hx H) (.inl (by rw [e]; simp))]
  exact t b o (s b o e)
theorem nw_at {Hx H H' : Hp} {b : Addr} {o : HO} (n : H b = none) (e : H' b = some o) : res (Nw Hx H) H' b = some o := by
  rw [res_of (S := Nw Hx H) (.inr n)]
  exact e
section
variable {P : Program} {w : World} {K : PySem.W.Frag} {mg : Str → Option Value} {base : Heap}
theorem ok_with_lists {f : Addr} {fd : FuncData} (F : FnP K "with_lists" "with_lists" s_with_lists f fd) (T : Tx w K mg) : FnOk P w K mg base CX0 1 f fd p_with_lists (spWith K) := by
  refine F.ok sc_with_lists (fun vs H Q E h => ?_) (fun cdv A outer s H vs Q E hr h => ?_)
  · obtain ⟨v, L, _, _, _, _, _, _, _, rfl, _⟩ := h
    rfl
  · obtain ⟨v, L, B, Hs, Hk, d, r, fs, xs, rfl, ⟨a, vs, rfl, ha, hp⟩, Sx, SB, Sk, hkn, hf, hk, few1, few2, hL, hxs, k⟩ := h
    have kmono : ∀ {H' : Hp}, Same H H' → Same Hk (res (NL B) H') := fun S b o e => by
      rw [res_of (S := NL B) (hkn _ _ e)]
      exact S _ _ (Sk _ _ e)
    have nw_at : ∀ {H' : Hp} {b : Addr} {o : HO}, H b = none → H' b = some o → res (NL B) H' b = some o := fun n e => by
      rw [res_of (S := NL B) (NL.new (SB.free n))]
      exact e
    have tmono : ∀ {H' : Hp} {t : Addr} {ys : List V}, Same H H' → SqT K Hs t ys → SqT K (res (NL B) H') t ys := fun S h => sqT_nl SB Sx S h
    have pmono : ∀ {H' : Hp} {p : Pt (Row d)} {v : V}, Same H H' → kidsP p = [] → PtAt K Hs (RowAt K Hs d) p v → PtAt K (res (NL B) H') (RowAt K (res (NL B) H') d) p v := fun {H' p v} S np h => by
      cases p with
      | word z => exact h
      | words l => obtain ⟨b, rfl, hb⟩ := h; exact ⟨b, rfl, tmono S hb⟩
      | rows l => cases np
      | sides ls =>
        obtain ⟨b, ws, rfl, hb, hx⟩ := h
        have np : ls = [] := np
        subst np
        cases hx
        exact ⟨b, [], rfl, tmono S hb, .nil⟩
    refine ⟨_, PSs.nox (pss_cons (ps_if (pt_cmpR op_eq (pe_ix ix_tup (pv 0) pe_int (fun _ _ => rfl)) pe_str (nomark _)) (pss_one (ps_ret (pe_tup (pa_cons pe_str (pa_cons (pe_callTy call_tuple_of (by rfl) T.b_tuple (by decide +kernel) (pa_cons (pv 1) pa_nil)) pa_nil))))) pss_nil)
      (pss_one (ps_ret (pe_op op_catA (pe_slice sl_tupA (pv 0) po_none (po_some (pe_op op_sub (pe_callB call_len_seq (by rfl) T.b_len PySem.boot_len (pa_cons (pv 0) pa_nil)) (pe_callB call_len_seq (by rfl) T.b_len PySem.boot_len (pa_cons (pv 1) pa_nil))))) (pe_callTy call_tuple_of (by rfl) T.b_tuple (by decide +kernel) (pa_cons (pv 1) pa_nil)))))), ?_⟩
    have ha1 := sameT Sx ha
    refine ⟨_, rfl, a, _, _, .str r.1, rfl, rfl, ha1, at0, rfl, _, rfl, ?_⟩
    rcases row_split hf hk with ⟨e1, ls, e2, e3⟩ | ⟨e1, n, e2, e3⟩
    · refine iteT' (decide_eq_true (by rw [e1])) ?_
      refine ⟨_, rfl, L, xs, rfl, .inl ⟨SqL.of hL, fun t1 n1 => ?_⟩⟩
      have S1 : Same H (upd H t1 (.tup xs)) := Same.new n1
      have h1 : upd H t1 (.tup xs) t1 = some (.tup xs) := upd_same
      generalize upd H t1 (.tup xs) = H1 at S1 h1 ⊢
      refine ⟨by show 2 ≤ sizeLine; decide, fun t2 n2 => ?_⟩
      have S2 : Same H1 (upd H1 t2 (.tup [.str "both", .ref t1])) := Same.new n2
      have h2 : upd H1 t2 (.tup [.str "both", .ref t1]) t2 = some (.tup [.str "both", .ref t1]) := upd_same
      generalize upd H1 t2 (.tup [.str "both", .ref t1]) = H2 at S2 h2 ⊢
      have SS := kmono (S1.trans S2)
      refine k H2 t2 (S1.trans S2) ⟨t2, [.ref t1], rfl, SqT.of (nw_at (S1.free n2) (by rw [e1]; exact h2)), ?_⟩
      rw [e2]
      refine .one ⟨t1, xs, rfl, SqT.of (nw_at n1 (S2 _ _ h1)), ?_⟩
      rw [e3] at hxs
      exact hxs.imp fun x y _ q => LstAt.mono SS (fun r v q => RowAt.mono SS q) q
    · refine iteF' (decide_eq_false fun z => e1 (by injection z)) ?_
      have lp := hp.len
      have lx := hxs.len
      have lz : ((V.str r.1 :: vs).length : Int) - (xs.length : Int) = ((n + 1 : Nat) : Int) := by rw [List.length_cons]; omega
      have hzero : xs.length + n = vs.length := by omega
      have kt : ∀ p ∈ r.2.take n, kidsP p = [] := by
        have e := congrArg (fun q => (kids q).length) e3
        have ek : ∀ ls : List (List (Row d)), kids (ls.map Pt.rows) = ls := fun ls => by
          unfold kids
          induction ls with
          | nil => rfl
          | cons l ls ih =>
            have : (List.map kidsP (List.map Pt.rows (l :: ls))).flatten = l :: (List.map kidsP (List.map Pt.rows ls)).flatten := rfl
            rw [this, ih]
        have e : (kids r.2).length = (kids (r.2.take n ++ (kids r.2).map Pt.rows)).length := e
        rw [kids_app, ek, List.length_append] at e
        have z : kids (r.2.take n) = [] := List.length_eq_zero_iff.mp (by omega)
        intro p hp2
        unfold kids at z
        have := List.flatten_eq_nil_iff.mp z (kidsP p) (List.mem_map.mpr ⟨p, hp2, rfl⟩)
        exact this
      have parts : ∀ {H' : Hp}, Same H H' → All2 (PtAt K (res (NL B) H') (RowAt K (res (NL B) H') d)) r.2 (vs.take n ++ xs) := fun {H'} S => by
        rw [e3]
        refine All2.app ((hp.take n).imp fun x y hx q => pmono S (kt x hx) q) ?_
        have SS := kmono S
        have m : ∀ {ls : List (List (Row d))} {ys : List V}, All2 (LstAt Hk (RowAt K Hk d)) ls ys → All2 (PtAt K (res (NL B) H') (RowAt K (res (NL B) H') d)) (ls.map Pt.rows) ys := fun {ls ys} h => by
          induction h with
          | nil => exact .nil
          | cons h _ ih => exact .cons (LstAt.mono SS (fun r v q => RowAt.mono SS q) h) ih
        exact m hxs
      have ec : cutV (V.str r.1 :: vs) none (some (((V.str r.1 :: vs).length : Int) - (xs.length : Int))) = V.str r.1 :: vs.take n := by
        rw [lz]
        unfold cutV
        rw [HT.sIx_nat, HT.sIx_none]
        simp
      refine ⟨_, rfl, _, rfl, a, _, rfl, .inr ha1, _, rfl, L, _, rfl, .inl (SqL.of hL), _, _, rfl, rfl, _, rfl, a, _, rfl, ha1, fun wh => ?_, fun nw p np => ?_⟩
      · have en : vs.take n = vs := by
          have z := wh.2
          rw [lz, HT.sIx_nat, List.length_cons] at z
          exact List.take_of_length_le (by omega)
        have hb : SqT K H a (.str r.1 :: vs.take n) := en.symm ▸ ha1
        have S1 : Same H H := Same.refl H
        refine ⟨_, rfl, L, xs, rfl, .inl ⟨SqL.of (S1 _ _ hL), fun t1 n1 => ?_⟩⟩
        refine ⟨a, t1, _, _, rfl, rfl, sameT (Same.new n1) hb, SqT.of upd_same, (by rw [List.length_cons, List.length_take, sizeLine_eq]; omega), fun z => by simp at z, fun _ z => ?_, fun _ _ p3 n3 => ?_⟩
        · refine k _ _ (S1.trans (Same.new n1)) ⟨a, vs.take n, rfl, ?_, ?_⟩
          · exact by rw [en]; exact tmono ((Same.refl H).trans (Same.new (o := .tup xs) n1)) ha
          · have q := parts (S1.trans (Same.new (o := .tup xs) n1))
            have en2 : vs.take n ++ xs = vs.take n := by rw [z, List.append_nil]
            rw [en2] at q
            exact q
        · refine k _ _ ((S1.trans (Same.new n1)).trans (Same.new n3)) ⟨p3, vs.take n ++ xs, rfl, SqT.of (nw_at ((S1.trans (Same.new n1)).free n3) upd_same), parts ((S1.trans (Same.new n1)).trans (Same.new n3))⟩
      · rw [ec]
        have hb : SqT K (upd H p (.tup (V.str r.1 :: vs.take n))) p (.str r.1 :: vs.take n) := SqT.of upd_same
        have S1 : Same H (upd H p (.tup (V.str r.1 :: vs.take n))) := Same.new np
        refine ⟨_, rfl, L, xs, rfl, .inl ⟨SqL.of (S1 _ _ hL), fun t1 n1 => ?_⟩⟩
        refine ⟨p, t1, _, _, rfl, rfl, sameT (Same.new n1) hb, SqT.of upd_same, (by rw [List.length_cons, List.length_take, sizeLine_eq]; omega), fun z => by simp at z, fun _ z => ?_, fun _ _ p3 n3 => ?_⟩
        · refine k _ _ (S1.trans (Same.new n1)) ⟨p, vs.take n, rfl, ?_, ?_⟩
          · exact SqT.of (nw_at np (by rw [upd_ne (ne_of_none upd_same n1)]; exact upd_same))
          · have q := parts (S1.trans (Same.new (o := .tup xs) n1))
            have en2 : vs.take n ++ xs = vs.take n := by rw [z, List.append_nil]
            rw [en2] at q
            exact q
        · refine k _ _ ((S1.trans (Same.new n1)).trans (Same.new n3)) ⟨p3, vs.take n ++ xs, rfl, SqT.of (nw_at ((S1.trans (Same.new n1)).free n3) upd_same), parts ((S1.trans (Same.new n1)).trans (Same.new n3))⟩
end
end OR

set_option Elab.async false
set_option maxRecDepth 100000
set_option maxHeartbeats 4000000
set_option linter.all false
namespace OR
open PySem PySem.Spec PyProof.Rows L2 TS2
/-- the forms are known, the numbers are small, all the way down -/
def Shape : (d : Nat) → Row d → Prop
  | 0, r => nomatch r
  | d + 1, r => (∃ fs, (r.1, fs) ∈ ftab ∧ KindsOk fs r.2) ∧ (∀ p ∈ r.2, (wordsP p).length ≤ 100) ∧ (kids r.2).length ≤ 1000 ∧ ∀ l ∈ kids r.2, l.length ≤ 1000 ∧ ∀ r' ∈ l, Shape d r'
theorem ftab_four : ∀ e ∈ ftab, e.2.length ≤ 4 := by decide +kernel
theorem Shape.parts {d : Nat} {r : Row (d + 1)} (h : Shape (d + 1) r) : r.2.length ≤ 4 := by
  obtain ⟨⟨fs, hf, hk⟩, _⟩ := h
  rw [← hk.len]
  exact ftab_four _ hf
def spCopied (K : PySem.W.Frag) : Nat → Sp
  | 0 => fun _ _ _ _ => False
  | d + 1 => fun vs H Q _ => ∃ (a : Addr) (H0 : Hp) (rows : List (Row d)) (xs : List V), vs = [.ref a] ∧ H0 a = some (.lst xs) ∧ Same H0 H ∧ All2 (RowAt K H0 d) rows xs ∧ rows.length ≤ 1000 ∧ (∀ r ∈ rows, Shape d r) ∧
    ∀ (H' : Hp) (D : Addr) (ys : List V), Same H H' → H D = none → H' D = some (.lst ys) → All2 (RowAt K (res (NL H) H') d) rows ys → Q (.ref D) H'
section
variable {P : Program} {w : World} {K : PySem.W.Frag} {mg : Str → Option Value} {base : Heap}
theorem ok_copied {k0 d : Nat} {f : Addr} {fd : FuncData} (F : FnP K "copied" "copied" s_copied f fd) (T : Tx w K mg) (h1 : 1 ≤ k0) (G_lists_of : Def P w K mg base CX0 1 "lists_of" p_lists_of (spListsOf K)) (G_with_lists : Def P w K mg base CX0 1 "with_lists" p_with_lists (spWith K))
    (G_copied : Def P w K mg base CX0 k0 "copied" p_copied (spCopied K d)) : FnOk P w K mg base CX0 (k0 + 1) f fd p_copied (spCopied K (d + 1)) := by
  refine F.ok sc_copied (fun vs H Q E h => ?_) (fun cdv A outer s H vs Q E hr h => ?_)
  · obtain ⟨a, _, _, _, rfl, _⟩ := h
    rfl
  · obtain ⟨a, H0, rows, xs, rfl, ha, S0, hp, few, sh, k⟩ := h
    have hr1 : Room 1 _ := hr.mono h1
    refine ⟨_, PSs.nox (pss_one (ps_ret (pe_lc (own := [("row", 1)]) (g := (gName 1)) (by rfl) sc_copied.nd (pi_list (pv 0)) (blkOk_by (N := n_copied) (sc := defScope s_copied) (by decide +kernel)) (fun _ _ _ _ _ => (pg_name (i := 1) sc_copied.nd rfl (.inl rfl))) (fun _ _ _ _ _ => pts_nil) (fun _ _ _ _ _ => (pe_fn G_with_lists (hr.mono (by omega)) (by rfl) pass0 (pa_cons (pv 1) (pa_cons (pe_lc (own := [("inner", 2)]) (g := (gName 2)) (by rfl) sc_copied.nd (show PI _ _ _ (iList K _) from pi_list (pe_fn G_lists_of (hr.mono (by omega)) (by rfl) pass0 (pa_cons (pv 1) pa_nil))) (blkOk_any (N := n_copied) (by decide +kernel)) (fun _ _ _ _ _ => (pg_name (i := 2) sc_copied.nd rfl (.inl rfl))) (fun _ _ _ _ _ => pts_nil) (fun _ _ _ _ _ => (pe_fn G_copied (hr.mono (by omega)) (by rfl) pass0 (pa_cons (pv 2) pa_nil)))) pa_nil))))))), ?_⟩
    refine ⟨_, rfl, a, rfl, ⟨_, SqL.of (S0 _ _ ha)⟩, fun D nD => ?_⟩
    have aD : a ≠ D := ne_of_none (S0 _ _ ha) nD
    refine lc_it (walk_list (K := K) (a := a) (xs := xs)) (fun i H' => Kp (· = D) (upd H D (.lst [])) H' ∧ ∃ ys, H' D = some (.lst ys) ∧ ys.length = i ∧ All2 (RowAt K (res (fun b => NL H b ∧ b ≠ D) H') d) (rows.take i) ys) ⟨Kp.refl _, [], upd_same, rfl, .nil⟩
      (fun i H' _ p => SqL.of (p.1 _ _ (by rw [upd_ne aD]; exact S0 _ _ ha) aD)) (fun i x H1 H2 hi p y => ?_) (fun H1 p => ?_)
    · obtain ⟨rfl, hx⟩ := y
      obtain ⟨kp, ys, hD, ly, hys⟩ := p
      obtain ⟨r, hrow, hra⟩ := hp.other hx
      have shr := sh r (List.mem_of_getElem? hrow)
      have SH : Same H H2 := fun b o e => kp b o (by rw [upd_ne (ne_of_none e nD)]; exact e) (ne_of_none e nD)
      refine ⟨rfl, ?_⟩
      refine tYes_ ?_
      refine iteT ?_
      cases d with
      | zero => exact nomatch r
      | succ e =>
        obtain ⟨⟨fs, hf, hk⟩, wl, fk, sk⟩ := id shr
        have S02 : Same H0 H2 := S0.trans SH
        refine ⟨_, rfl, _, rfl, x, H0, e, r, fs, rfl, hra, S02, hf, hk, fk, fun H3 L ls S3 nL hL hls => ?_⟩
        refine ⟨L, rfl, ⟨_, SqL.of hL⟩, fun D2 nD2 => ?_⟩
        have LD2 : L ≠ D2 := ne_of_none hL nD2
        have S03 := S02.trans S3
        have H2D2 : H2 D2 = none := S3.free nD2
        refine lc_it (walk_list (K := K) (a := L) (xs := ls)) (fun j H' => Kp (· = D2) (upd H3 D2 (.lst [])) H' ∧ ∃ zs, H' D2 = some (.lst zs) ∧ zs.length = j ∧ All2 (LstAt (res (fun b => NL H2 b ∧ b ≠ D2) H') (RowAt K (res (fun b => NL H2 b ∧ b ≠ D2) H') e)) ((kids r.2).take j) zs)
          ⟨Kp.refl _, [], upd_same, rfl, .nil⟩ (fun j H' _ q => SqL.of (q.1 _ _ (by rw [upd_ne LD2]; exact hL) LD2)) (fun j v H4 H5 hj q y => ?_) (fun H4 q => ?_)
        · obtain ⟨rfl, hv⟩ := y
          obtain ⟨kq, zs, hD2, lz, hzs⟩ := q
          obtain ⟨l, hl, c, cs, rfl, hc, hcs⟩ := hls.other hv
          obtain ⟨fl, sl⟩ := sk l (List.mem_of_getElem? hl)
          have SH3 : Same H3 H5 := fun b o e => kq b o (by rw [upd_ne (ne_of_none e nD2)]; exact e) (ne_of_none e nD2)
          refine ⟨rfl, ?_⟩
          refine tYes_ ?_
          refine iteT ?_
          refine ⟨_, rfl, c, H0, l, cs, rfl, hc, S03.trans SH3, hcs, fl, sl, fun H6 D3 cs' S6 nD3 hD3 hcs' => ?_⟩
          have D32 : D3 ≠ D2 := fun z => by rw [z, hD2] at nD3; cases nD3
          have H2D3 : H2 D3 = none := (S3.trans SH3).free nD3
          refine ⟨zs, S6 _ _ hD2, small1000 (by have := hls.len; omega), fun b o hb nb => ?_, _, upd_same, by simp [lz], ?_⟩
          · rw [upd_ne nb]
            exact S6 _ _ (kq b o hb nb)
          · have SR : ∀ o, Same (res (fun b => NL H2 b ∧ b ≠ D2) H5) (res (fun b => NL H2 b ∧ b ≠ D2) (upd H6 D2 o)) := fun o => same_res fun b u c e => ⟨c, by rw [upd_ne c.2]; exact S6 _ _ e⟩
            have SN : ∀ o, Same (res (NL H5) H6) (res (fun b => NL H2 b ∧ b ≠ D2) (upd H6 D2 o)) := fun o => same_res fun b u c e => by
              have nb : b ≠ D2 := fun z => by
                subst z
                exact c.no hD2 rfl
              exact ⟨⟨NL.of (S3.trans SH3) c, nb⟩, by rw [upd_ne nb]; exact e⟩
            rw [take_more hl]
            refine All2.app (hzs.imp fun x y _ q => LstAt.mono (SR _) (fun r v q => RowAt.mono (SR _) q) q) (All2.one ⟨D3, cs', rfl, ?_, hcs'.imp fun x y _ q => RowAt.mono (SN _) q⟩)
            rw [res_of (S := fun b => NL H2 b ∧ b ≠ D2) ⟨NL.new H2D3, D32⟩, upd_ne D32]
            exact hD3
        · obtain ⟨kq, zs, hD2, lz, hzs⟩ := q
          rw [← hls.len, List.take_length] at hzs
          have SH3 : Same H3 H4 := fun b o e => kq b o (by rw [upd_ne (ne_of_none e nD2)]; exact e) (ne_of_none e nD2)
          refine ⟨x, D2, H2, H0, res (fun b => NL H2 b ∧ b ≠ D2) H4, e, r, fs, zs, rfl, hra, S03.trans SH3, S3.trans SH3, res_same, fun b o h => (res_some h).1.1, hf, hk, by have := shr.parts; omega, fk, hD2, hzs, fun H6 t S6 hrow' => ?_⟩
          have S26 : Same H2 H6 := (S3.trans SH3).trans S6
          refine ⟨ys, S26 _ _ hD, small1000 (by have := hp.len; omega), fun b o hb nb => ?_, _, upd_same, by simp [ly], ?_⟩
          · rw [upd_ne nb]
            exact S26 _ _ (kp b o hb nb)
          · have SR : ∀ o, Same (res (fun b => NL H b ∧ b ≠ D) H2) (res (fun b => NL H b ∧ b ≠ D) (upd H6 D o)) := fun o => same_res fun b u c e => ⟨c, by rw [upd_ne c.2]; exact S26 _ _ e⟩
            have SN : ∀ o, Same (res (NL H2) H6) (res (fun b => NL H b ∧ b ≠ D) (upd H6 D o)) := fun o => same_res fun b u c e => by
              have nb : b ≠ D := fun z => by
                subst z
                exact c.no hD rfl
              exact ⟨⟨NL.of SH c, nb⟩, by rw [upd_ne nb]; exact e⟩
            rw [take_more hrow]
            exact All2.app (hys.imp fun x y _ q => RowAt.mono (SR _) q) (All2.one (RowAt.mono (SN _) hrow'))
    · obtain ⟨kp, ys, hD, ly, hys⟩ := p
      rw [← hp.len, List.take_length] at hys
      have SH : Same H H1 := fun b o e => kp b o (by rw [upd_ne (ne_of_none e nD)]; exact e) (ne_of_none e nD)
      refine k H1 D ys SH nD hD (hys.imp fun x y _ q => RowAt.mono (same_res fun b u c e => ⟨c.1, e⟩) q)
end
end OR

set_option Elab.async false
set_option maxRecDepth 100000
set_option maxHeartbeats 4000000
set_option linter.all false
namespace OR
open PySem PySem.Spec PyProof.Rows L2 TS2
/-- how many rows -/
def rsz : (d : Nat) → Row d → Nat
  | 0, r => nomatch r
  | d + 1, r => 1 + (((kids r.2).map fun l => (l.map (rsz d)).sum).sum)
def lsz (d : Nat) (rows : List (Row d)) : Nat := (rows.map (rsz d)).sum
def spSize (K : PySem.W.Frag) : Nat → Sp
  | 0 => fun _ _ _ _ => False
  | d + 1 => fun vs H Q _ => ∃ (v : V) (H0 : Hp) (r : Row d), vs = [v] ∧ Same H0 H ∧ RowAt K H0 d r v ∧ Shape d r ∧ rsz d r ≤ 3000 ∧ ∀ H', Same H H' → Q (.int (rsz d r)) H'
theorem sum_int (ns : List Nat) : (ns.map fun n : Nat => (n : Int)).sum = (ns.sum : Nat) := by
  induction ns with
  | nil => rfl
  | cons n ns ih => simp [ih]
/-- the numbers of the rows in the first lists -/
def szs (d : Nat) (ls : List (List (Row d))) : List Nat := (ls.map fun l => l.map (rsz d)).flatten
theorem szs_sum (d : Nat) (ls : List (List (Row d))) : (szs d ls).sum = (ls.map fun l => (l.map (rsz d)).sum).sum := by
  unfold szs
  induction ls with
  | nil => rfl
  | cons l ls ih => simp [ih]
theorem szs_snoc (d : Nat) (ls : List (List (Row d))) (l : List (Row d)) : szs d (ls ++ [l]) = szs d ls ++ l.map (rsz d) := by
  unfold szs
  rw [List.map_append, List.flatten_append]
  simp
theorem rsz_pos {d : Nat} (r : Row d) : 1 ≤ rsz d r := by
  cases d with
  | zero => exact nomatch r
  | succ e => simp [rsz]
theorem len_le_sum (ns : List Nat) (h : ∀ n ∈ ns, 1 ≤ n) : ns.length ≤ ns.sum := by
  induction ns with
  | nil => simp
  | cons n ns ih =>
    have h1 := h n List.mem_cons_self
    have h2 := ih fun m hm => h m (List.mem_cons_of_mem _ hm)
    simp; omega
theorem szs_pos {d : Nat} {ls : List (List (Row d))} : ∀ n ∈ szs d ls, 1 ≤ n := fun n hn => by
  unfold szs at hn
  rw [List.mem_flatten] at hn
  obtain ⟨l, hl, hn⟩ := hn
  rw [List.mem_map] at hl
  obtain ⟨l', _, rfl⟩ := hl
  rw [List.mem_map] at hn
  obtain ⟨r, _, rfl⟩ := hn
  exact rsz_pos r
theorem szs_take_le {d : Nat} (ls : List (List (Row d))) (j : Nat) : (szs d (ls.take j)).length ≤ (szs d ls).length := by
  conv => rhs; rw [← List.take_append_drop j ls]
  unfold szs
  rw [List.map_append, List.flatten_append, List.length_append]
  omega
theorem mem_le_sum {ns : List Nat} {n : Nat} (h : n ∈ ns) : n ≤ ns.sum := by
  induction ns with
  | nil => simp at h
  | cons m ns ih =>
    rcases List.mem_cons.mp h with rfl | h
    · simp
    · have := ih h
      simp; omega
section
variable {P : Program} {w : World} {K : PySem.W.Frag} {mg : Str → Option Value} {base : Heap}
theorem ok_size_of {k0 d : Nat} {f : Addr} {fd : FuncData} (F : FnP K "size_of" "size_of" s_size_of f fd) (T : Tx w K mg) (h1 : 1 ≤ k0) (G_lists_of : Def P w K mg base CX0 1 "lists_of" p_lists_of (spListsOf K))
    (G_size_of : Def P w K mg base CX0 k0 "size_of" p_size_of (spSize K d)) : FnOk P w K mg base CX0 (k0 + 1) f fd p_size_of (spSize K (d + 1)) := by
  refine F.ok sc_size_of (fun vs H Q E h => ?_) (fun cdv A outer s H vs Q E hr h => ?_)
  · obtain ⟨v, _, _, rfl, _⟩ := h
    rfl
  · obtain ⟨v, H0, r, rfl, S0, hra, sh, few, k⟩ := h
    refine ⟨_, PSs.nox (pss_one (ps_ret (pe_op op_add pe_int (pe_callB (cr_sum rfl) (by rfl) T.b_sum (by decide +kernel) (pa_cons (pe_lc2 (own := [("rows", 1), ("inner", 2)]) (g := (gName 1)) (g1 := (gName 2)) (wi1 := iList K (tVar 1)) (vs1 := [2]) rfl sc_size_of.nd (pi_list (pe_fn G_lists_of (hr.mono (by omega)) (by rfl) pass0 (pa_cons (pv 0) pa_nil))) (blkOk_by (N := n_size_of) (sc := defScope s_size_of) (by decide +kernel)) (by decide) (fun _ _ _ _ _ => (pg_name (i := 1) sc_size_of.nd rfl (.inl rfl))) (fun _ _ _ _ _ => pts_nil) (fun _ _ _ _ _ => (pi_list (pv 1))) (fun _ _ _ _ _ => (pg_name (i := 2) sc_size_of.nd rfl (.inl rfl))) (fun _ _ _ _ _ => pts_nil) (fun _ _ _ _ _ => (pe_fn G_size_of (hr.mono (by omega)) (by rfl) pass0 (pa_cons (pv 2) pa_nil)))) pa_nil))))), ?_⟩
    cases d with
    | zero => exact nomatch r
    | succ e =>
      obtain ⟨⟨fs, hf, hk⟩, wl, fk, sk⟩ := id sh
      have es : rsz (e + 1) r = 1 + (szs e (kids r.2)).sum := by rw [szs_sum]; rfl
      have all : (szs e (kids r.2)).length ≤ 3000 := by have := len_le_sum _ (szs_pos (ls := kids r.2)); omega
      refine ⟨_, rfl, v, H0, e, r, fs, rfl, hra, S0, hf, hk, fk, fun H1 L ls S1 nL hL hls => ?_⟩
      refine ⟨L, rfl, ⟨_, SqL.of hL⟩, fun D nD => ?_⟩
      have LD : L ≠ D := ne_of_none hL nD
      have S01 := S0.trans S1
      have keep : ∀ {H' : Hp}, Kp (· = D) (upd H1 D (.lst [])) H' → Same H1 H' := fun k b o e => k b o (by rw [upd_ne (ne_of_none e nD)]; exact e) (ne_of_none e nD)
      refine out_it (walk_list (K := K) (a := L) (xs := ls)) (fun j H' => Kp (· = D) (upd H1 D (.lst [])) H' ∧ H' D = some (.lst (((szs e ((kids r.2).take j)).map fun n : Nat => V.int n)))) ⟨Kp.refl _, by rw [upd_same]; rfl⟩
        (fun j H' _ q => SqL.of (q.1 _ _ (by rw [upd_ne LD]; exact hL) LD)) (fun j x H2 H3 hj q y => ?_) (fun H2 q => ?_)
      · obtain ⟨rfl, hv⟩ := y
        obtain ⟨kq, hD⟩ := q
        obtain ⟨l, hl, c, cs, rfl, hc, hcs⟩ := hls.other hv
        obtain ⟨fl, sl⟩ := sk l (List.mem_of_getElem? hl)
        have tl := szs_take_le (kids r.2) (j + 1)
        rw [take_more hl, szs_snoc, List.length_append] at tl
        refine ⟨rfl, ?_⟩
        refine tYes_ ?_
        refine iteT ?_
        refine ⟨_, rfl, c, rfl, ⟨_, SqL.of ((S01.trans (keep kq)) _ _ hc)⟩, ?_⟩
        refine out_it (walk_list (K := K) (a := c) (xs := cs)) (fun i H' => Kp (· = D) (upd H1 D (.lst [])) H' ∧ H' D = some (.lst ((szs e ((kids r.2).take j) ++ (l.take i).map (rsz e)).map fun n : Nat => V.int n))) ⟨kq, by rw [hD]; simp⟩
          (fun i H' _ q => SqL.of ((S01.trans (keep q.1)) _ _ hc)) (fun i x H4 H5 hi q y => ?_) (fun H4 q => ?_)
        · obtain ⟨rfl, hx⟩ := y
          obtain ⟨kp, hD4⟩ := q
          obtain ⟨r', hr', hra'⟩ := hcs.other hx
          have le1 : rsz e r' ≤ 3000 := by
            have m : rsz e r' ∈ szs e (kids r.2) := by
              unfold szs
              rw [List.mem_flatten]
              exact ⟨_, List.mem_map.mpr ⟨l, List.mem_of_getElem? hl, rfl⟩, List.mem_map.mpr ⟨r', List.mem_of_getElem? hr', rfl⟩⟩
            have := mem_le_sum m
            omega
          refine ⟨rfl, ?_⟩
          refine tYes_ ?_
          refine iteT ?_
          refine ⟨_, rfl, x, H0, r', rfl, S01.trans (keep kp), hra', sl r' (List.mem_of_getElem? hr'), le1, fun H6 S6 => ?_⟩
          refine ⟨_, S6 _ _ hD4, Nat.lt_of_le_of_lt (m := 3000) ?_ (by decide), fun b o hb nb => ?_, ?_⟩
          · have : (l.take i).length ≤ l.length := by rw [List.length_take]; omega
            rw [List.length_map, List.length_append, List.length_map]
            rw [List.length_map] at tl
            omega
          · rw [upd_ne nb]
            exact S6 _ _ (kp b o hb nb)
          · rw [upd_same, take_more hr', List.map_append, List.map_append]
            simp
        · obtain ⟨kp, hD4⟩ := q
          refine ⟨kp, ?_⟩
          rw [hD4, take_more hl, szs_snoc, ← hcs.len, List.take_length]
      · obtain ⟨kq, hD⟩ := q
        rw [← hls.len, List.take_length] at hD
        refine ⟨D, (szs e (kids r.2)).map fun n : Nat => (n : Int), rfl, SqL.of (by rw [hD, List.map_map]; rfl), ?_⟩
        refine ⟨_, _, rfl, rfl, ?_⟩
        have ee : (1 : Int) + ((szs e (kids r.2)).map fun n : Nat => (n : Int)).sum = (rsz (e + 1) r : Nat) := by rw [sum_int, es]; simp
        show Q (.int (1 + ((szs e (kids r.2)).map fun n : Nat => (n : Int)).sum)) H2
        rw [ee]
        exact k H2 (S1.trans (keep kq))
end
end OR

set_option Elab.async false
set_option maxRecDepth 100000
set_option maxHeartbeats 4000000
set_option linter.all false
namespace OR
open PySem PySem.Spec PyProof.Rows L2 TS2
def hasK (kvs : List (Key × V)) (z : Str) : Bool := (valV kvs (Sum.inr z : Key)).isSome
def onWord {R : Type} (g : Str → Bool) : Pt R → Bool
  | .word z => isWord z && g z
  | _ => false
def onWords {R : Type} (g : List Str → Bool) : Pt R → Bool
  | .words l => g l
  | _ => false
def isRows {R : Type} : Pt R → Bool
  | .rows _ => true
  | _ => false
def onSides {R : Type} : Pt R → Bool
  | .sides ls => decide (ls.length = 2 ∨ ls.length = 3)
  | _ => false
/-- a part fits its form; ka, ks: the tables of asks and of signals -/
def fit {R : Type} (ka ks : List (Key × V)) (f : Str) (p : Pt R) : Bool :=
  if f = "ask" then onWord (hasK ka) p
  else if f = "signal" then onWord (hasK ks) p
  else if f = "slot" then onWord (fun z => decide (z ≠ "in")) p
  else if f = "labels" ∨ f = "words" then onWords (areW 3) p
  else if f = "rows" then isRows p
  else if f = "sides" then onSides p
  else onWord (fun _ => true) p
/-- what is asked of a part so that the code's answer about it is known -/
def Nice {R : Type} (f : Str) (p : Pt R) : Prop := (∀ z ∈ wordsP p, z.length ≤ 1000) ∧ (wordsP p).length ≤ 100 ∧ (kidsP p).length ≤ 100 ∧ ((f = "labels" ∨ f = "words") → ∀ ls, p ≠ .sides ls) ∧ (f = "sides" → ∀ l, p ≠ .words l)
def hasForm {R : Type} (ed : Bool) (ka ks : List (Key × V)) (w : Str) (fs : List Str) (ps : List (Pt R)) : Bool := !(decide (w = "edit") && !ed) && (decide (ps.length = fs.length) && ((fs.zip ps).map fun x => fit ka ks x.1 x.2).all id)
def mayS (w : Str) (n : Nat) (il : Bool) (k : Nat) : Bool := if w = "leave" then il else (decide ((n + 1) / 2 < 5) || decide (k = 0))
/-- the row check: edits seen, gates seen -/
abbrev Sn : Type := List (Key × V) × List (Key × V)
def firstW {R : Type} : List (Pt R) → Str
  | .word z :: _ => z
  | _ => ""
def isNew {R : Type} (fs : List Str) (ps : List (Pt R)) (st : Sn) : Bool × Sn :=
  if ("edit" : Str) ∈ fs then (!hasK st.1 (firstW ps) && !hasK st.2 (firstW ps), (putK st.1 (Sum.inr (firstW ps)) (.bl true), st.2))
  else if ("gate" : Str) ∈ fs then (!hasK st.1 (firstW ps), (st.1, putK st.2 (Sum.inr (firstW ps)) (.bl true)))
  else (true, st)
def rcF (a s : Addr) (b : Bool) (e g : Addr) : List (Str × V) := [("ask_table", .ref a), ("signal_table", .ref s), ("with_edits", .bl b), ("seen_edits", .ref e), ("seen_gates", .ref g)]
/-- a row check at p: its tables, what it has seen -/
structure RC (K : PySem.W.Frag) (H : Hp) (p : Addr) (ed : Bool) (ka ks : List (Key × V)) (st : Sn) (a s e g dx : Addr) : Prop where
  ob : H p = some (.ins (He.ga K "RowCheck") dx (rcF a s ed e g))
  ha : H a = some (.dK ka)
  hs : H s = some (.dK ks)
  he : H e = some (.dK st.1)
  hg : H g = some (.dK st.2)
  eg : e ≠ g
  ea : a ≠ e ∧ a ≠ g ∧ s ≠ e ∧ s ≠ g
theorem RC.same {K : PySem.W.Frag} {H H' : Hp} {p : Addr} {ed : Bool} {ka ks : List (Key × V)} {st : Sn} {a s e g dx : Addr} (c : RC K H p ed ka ks st a s e g dx) (S : Same H H') : RC K H' p ed ka ks st a s e g dx :=
  ⟨S _ _ c.ob, S _ _ c.ha, S _ _ c.hs, S _ _ c.he, S _ _ c.hg, c.eg, c.ea⟩
def spSides (K : PySem.W.Frag) : Sp := fun vs H Q _ => ∃ v, vs = [v] ∧ ((∃ a ws, v = .ref a ∧ SqT K H a ws ∧ ws.length ≤ 1000 ∧ (∀ x ∈ ws, ∃ c cs, x = .ref c ∧ H c = some (.lst cs)) ∧ ∀ H', Same H H' → Q (.bl (decide (ws.length = 2 ∨ ws.length = 3))) H') ∨ (NotA K H v "tuple" ∧ Q (.bl false) H))
def spMay (K : PySem.W.Frag) : Sp := fun vs H Q _ => ∃ (v : V) (t : Addr) (il : Bool) (H0 : Hp) (d : Nat) (r : Row (d + 1)) (fs : List Str) (ns : List V), vs = [v, .ref t, .bl il] ∧ SqT K H t ns ∧ ns.length ≤ 100 ∧ RowAt K H0 (d + 1) r v ∧ Same H0 H ∧ (r.1, fs) ∈ ftab ∧ KindsOk fs r.2 ∧ (kids r.2).length ≤ 1000 ∧
  ∀ H', Same H H' → Q (.bl (mayS r.1 ns.length il (kids r.2).length)) H'
def spFits (K : PySem.W.Frag) : Sp := fun vs H Q _ => ∃ (p : Addr) (f : Str) (v : V) (d : Nat) (H0 : Hp) (pt : Pt (Row d)) (ed : Bool) (ka ks : List (Key × V)) (st : Sn) (a s e g dx : Addr), vs = [.ref p, .str f, v] ∧ RC K H p ed ka ks st a s e g dx ∧ PtAt K H0 (RowAt K H0 d) pt v ∧ Same H0 H ∧ Nice f pt ∧
  ∀ H', Same H H' → Q (.bl (fit ka ks f pt)) H'
def spHasForm (K : PySem.W.Frag) : Sp := fun vs H Q _ => ∃ (p : Addr) (v : V) (d : Nat) (H0 : Hp) (r : Row (d + 1)) (fs : List Str) (ed : Bool) (ka ks : List (Key × V)) (st : Sn) (a s e g dx : Addr), vs = [.ref p, v] ∧ RC K H p ed ka ks st a s e g dx ∧ RowAt K H0 (d + 1) r v ∧ Same H0 H ∧
  (r.1, fs) ∈ ftab ∧ (∀ x ∈ fs.zip r.2, Nice x.1 x.2) ∧ r.2.length ≤ 1000 ∧ ∀ H', Same H H' → Q (.bl (hasForm ed ka ks r.1 fs r.2)) H'
def spIsNew (K : PySem.W.Frag) : Sp := fun vs H Q _ => ∃ (p : Addr) (v : V) (d : Nat) (H0 : Hp) (r : Row (d + 1)) (fs : List Str) (ed : Bool) (ka ks : List (Key × V)) (st : Sn) (a s e g dx : Addr), vs = [.ref p, v] ∧ RC K H p ed ka ks st a s e g dx ∧ RowAt K H0 (d + 1) r v ∧ Same H0 H ∧
  H0 e = none ∧ H0 g = none ∧ (r.1, fs) ∈ ftab ∧ KindsOk fs r.2 ∧ st.1.length ≤ 5000 ∧ st.2.length ≤ 5000 ∧ ∀ H', Kp (fun b => b = e ∨ b = g) H H' → RC K H' p ed ka ks (isNew fs r.2 st).2 a s e g dx → Q (.bl (isNew fs r.2 st).1) H'
theorem PtAt.ty {K : PySem.W.Frag} {R : Type} {H : Hp} {RA : R → V → Prop} {p : Pt R} {v : V} (h : PtAt K H RA p v) : (∃ z, p = .word z ∧ v = .str z) ∨ (∃ ty, TyX K H v ty ∧ PySem.W.kitOne K ty (.type "str") = some false) := by
  cases p with
  | word z => exact .inl ⟨z, rfl, h⟩
  | words l =>
    obtain ⟨a, rfl, ha⟩ := h
    exact .inr ⟨_, tyT ha, kit_ty (by decide +kernel)⟩
  | rows l =>
    obtain ⟨a, xs, rfl, ha, _⟩ := h
    exact .inr ⟨_, tyL (SqL.of ha), kit_ty (by decide +kernel)⟩
  | sides ls =>
    obtain ⟨a, vs, rfl, ha, _⟩ := h
    exact .inr ⟨_, tyT ha, kit_ty (by decide +kernel)⟩
section
variable {P : Program} {w : World} {K : PySem.W.Frag} {mg : Str → Option Value} {base : Heap}
theorem ok_are_sides {f : Addr} {fd : FuncData} (F : FnP K "are_sides" "are_sides" s_are_sides f fd) (T : Tx w K mg) : FnOk P w K mg base CX0 1 f fd p_are_sides (spSides K) := by
  refine F.ok sc_are_sides (fun vs H Q E h => ?_) (fun cdv A outer s H vs Q E hr h => ?_)
  · obtain ⟨v, rfl, _⟩ := h
    rfl
  · obtain ⟨v, rfl, h⟩ := h
    refine ⟨_, PSs.nox (pss_cons (ps_if (PW.pt (pw_or (pt_not (pt_val (pe_callB call_isi (by rfl) T.b_isinstance (by decide +kernel) (pa_cons (pv 0) (pa_cons (pe_bltn (v := .ty "tuple") (u := .type "tuple") (by rfl) T.b_tuple (by decide +kernel) rfl) pa_nil))))) (pw_or1 (pt_cmpR op_notIn_seq (pe_callB call_len_seq (by rfl) T.b_len PySem.boot_len (pa_cons (pv 0) pa_nil)) (pe_tup (pa_cons pe_int (pa_cons pe_int pa_nil))) (by rfl))))) (pss_one (ps_ret pe_bl)) pss_nil)
      (pss_one (ps_ret (pe_callB (cr_all rfl) (by rfl) T.b_all (by decide +kernel) (pa_cons (pe_lc (own := [("side", 1)]) (g := (gName 1)) (by rfl) sc_are_sides.nd (pi_tup (pv 0)) (blkOk_by (N := n_are_sides) (sc := defScope s_are_sides) (by decide +kernel)) (fun _ _ _ _ _ => (pg_name (i := 1) sc_are_sides.nd rfl (.inl rfl))) (fun _ _ _ _ _ => pts_nil) (fun _ _ _ _ _ => (pe_callB (show CallR _ (.builtin "isinstance") (rIsi K) from call_isi) (by rfl) T.b_isinstance (by decide +kernel) (pa_cons (pv 1) (pa_cons (pe_bltn (v := .ty "list") (u := .type "list") (by rfl) T.b_list (by decide +kernel) rfl) pa_nil))))) pa_nil))))), ?_⟩
    rcases h with ⟨a, ws, rfl, ha, few, hl, k⟩ | ⟨⟨ty, n1, n2⟩, k⟩
    rotate_left
    · refine ⟨_, rfl, v, .ty "tuple", _, _, false, rfl, .ty _, n1, n2, _, rfl, ?_⟩
      refine iteT ?_
      refine iteT ?_
      exact k
    refine ⟨_, rfl, .ref a, .ty "tuple", _, _, true, rfl, .ty _, tyT ha, kit_ty (by decide +kernel), _, rfl, ?_⟩
    refine iteF ?_
    refine ⟨_, rfl, a, _, rfl, .inr ha, by show 2 ≤ sizeLine; decide, fun t nt => ?_⟩
    refine ⟨t, _, rfl, .inr (SqT.of upd_same), rfl, rfl, _, rfl, ?_⟩
    have S1 : Same H (upd H t (.tup [.int 2, .int 3])) := Same.new nt
    have e1 : (if true = true then !inV (.int ws.length) [.int 2, .int 3] else inV (.int ws.length) [.int 2, .int 3]) = !decide (ws.length = 2 ∨ ws.length = 3) := by
      rw [if_pos rfl]
      congr 1
      have e2 : inV (.int ws.length) [.int 2, .int 3] = ((2 : Int) == (ws.length : Int) || ((3 : Int) == (ws.length : Int) || false)) := rfl
      rw [e2]
      by_cases c : ws.length = 2
      · simp [c]
      · by_cases c' : ws.length = 3
        · simp [c']
        · have h1 : ((2 : Int) == (ws.length : Int)) = false := by simp; omega
          have h2 : ((3 : Int) == (ws.length : Int)) = false := by simp; omega
          simp [h1, h2, c, c']
    generalize upd H t (.tup [.int 2, .int 3]) = H1 at S1 ⊢
    rw [e1]
    cases c : decide (ws.length = 2 ∨ ws.length = 3) with
    | false =>
      refine iteT ?_
      rw [c] at k
      exact k H1 S1
    | true =>
      refine iteF ?_
      rw [c] at k
      refine ⟨_, rfl, a, rfl, ⟨_, sameT S1 ha⟩, fun D nD => ?_⟩
      refine lc_it (walk_tup (K := K) (a := a) (xs := ws)) (fun i H' => Same H1 H' ∧ H' D = some (.lst ((List.replicate i true).map V.bl))) ⟨Same.new nD, upd_same⟩ (fun i H' _ q => sameT (S1.trans q.1) ha) (fun i x H2 H3 hi p y => ?_) (fun H2 p => ?_)
      · obtain ⟨rfl, hx⟩ := y
        obtain ⟨S, hD⟩ := p
        obtain ⟨cc, cs, rfl, hc⟩ := hl x (List.mem_of_getElem? hx)
        refine ⟨rfl, ?_⟩
        refine tYes_ ?_
        refine iteT ?_
        refine ⟨_, rfl, .ref cc, .ty "list", _, _, true, rfl, .ty _, tyL (SqL.of (S _ _ (S1 _ _ hc))), kit_ty (by decide +kernel), ?_⟩
        refine ⟨_, hD, small1000 (by rw [List.length_map, List.length_replicate]; omega), fun b o hb => ?_, ?_⟩
        · rw [upd_ne (ne_of_none hb nD)]
          exact S _ _ hb
        · rw [upd_same, List.replicate_succ', List.map_append]
          rfl
      · obtain ⟨S, hD⟩ := p
        refine ⟨D, List.replicate ws.length true, rfl, SqL.of hD, ?_⟩
        have e3 : (List.replicate ws.length true).all id = true := by simp
        rw [e3]
        exact k _ (S1.trans S)
theorem ok_may_stand {f : Addr} {fd : FuncData} (F : FnP K "may_stand" "may_stand" s_may_stand f fd) (T : Tx w K mg) (G_lists_of : Def P w K mg base CX0 1 "lists_of" p_lists_of (spListsOf K)) : FnOk P w K mg base CX0 2 f fd p_may_stand (spMay K) := by
  refine F.ok sc_may_stand (fun vs H Q E h => ?_) (fun cdv A outer s H vs Q E hr h => ?_)
  · obtain ⟨v, t, il, _, _, _, _, _, rfl, _⟩ := h
    rfl
  · obtain ⟨v, t, il, H0, d, r, fs, ns, rfl, ht, few, hra, S0, hf, hk, fk, k⟩ := h
    obtain ⟨a, vs, rfl, ha, hp⟩ := id hra
    obtain ⟨t5, mDEEPEST⟩ := T.m_DEEPEST
    refine ⟨_, PSs.nox (pss_cons (ps_if (pt_cmpR op_eq (pe_ix ix_tup (pv 0) pe_int (fun _ _ => rfl)) pe_str (nomark _)) (pss_one (ps_ret (pv 2))) pss_nil)
      (pss_cons (ps_set (i := 3) sc_may_stand.nd rfl (.inl rfl) (pe_op op_fdivN (pe_op op_add (pe_callB call_len_seq (by rfl) T.b_len PySem.boot_len (pa_cons (pv 1) pa_nil)) pe_int) pe_int))
      (pss_one (ps_ret (pe_or (pe_cmpR op_lt (pv 3) (pe_glob (by rfl) mDEEPEST (show RelV (.int (5)) _ from ⟨_, rfl⟩)) (nomark _)) (pe_one (pe_cmpR op_eq (pe_callB call_len_seq (by rfl) T.b_len PySem.boot_len (pa_cons (pe_fn G_lists_of (hr.mono (by decide)) (by rfl) pass0 (pa_cons (pv 0) pa_nil)) pa_nil)) pe_int (nomark _)))))))), ?_⟩
    refine ⟨_, rfl, a, _, _, .str r.1, rfl, rfl, sameT S0 ha, at0, rfl, _, rfl, ?_⟩
    by_cases c : r.1 = "leave"
    · refine iteT' (decide_eq_true (by rw [c])) ?_
      have e : mayS r.1 ns.length il (kids r.2).length = il := by unfold mayS; rw [if_pos c]
      rw [e] at k
      exact ⟨_, rfl, k H (Same.refl H)⟩
    · refine iteF' (decide_eq_false fun z => c (by injection z)) ?_
      have e : mayS r.1 ns.length il (kids r.2).length = (decide ((ns.length + 1) / 2 < 5) || decide ((kids r.2).length = 0)) := by unfold mayS; rw [if_neg c]
      rw [e] at k
      refine ⟨_, rfl, t, _, rfl, .inr ht, _, _, rfl, rfl, _, _, rfl, rfl, ⟨by decide, by decide⟩, ?_⟩
      refine ⟨_, rfl, _, _, rfl, rfl, _, rfl, ?_⟩
      have e2 : (((ns.length : Int) + 1).fdiv 2 < 5) ↔ ((ns.length + 1) / 2 < 5) := by
        have : ((ns.length : Int) + 1).fdiv 2 = (((ns.length + 1) / 2 : Nat) : Int) := by
          rw [Int.fdiv_eq_ediv_of_nonneg _ (by decide)]
          omega
        rw [this]
        omega
      cases c2 : decide ((ns.length + 1) / 2 < 5) with
      | true =>
        have c3 : decide (((ns.length : Int) + 1).fdiv 2 < 5) = true := decide_eq_true (e2.mpr (of_decide_eq_true c2))
        rw [c2] at k
        refine iteT' c3 ?_
        exact k H (Same.refl H)
      | false =>
        have c3 : decide (((ns.length : Int) + 1).fdiv 2 < 5) = false := decide_eq_false fun z => of_decide_eq_false c2 (e2.mp z)
        rw [c2] at k
        refine iteF' c3 ?_
        refine ⟨_, rfl, _, H0, d, r, fs, rfl, hra, S0, hf, hk, fk, fun H1 D ls S1 nD hD hls => ?_⟩
        refine ⟨D, _, rfl, .inl (SqL.of hD), rfl, ?_⟩
        have e4 : decide (V.int ls.length = V.int 0) = (false || decide ((kids r.2).length = 0)) := by
          have l := hls.len
          by_cases z : (kids r.2).length = 0
          · have z' : ls.length = 0 := by omega
            simp [z, z']
          · have z' : ¬ ls.length = 0 := by omega
            simp [z, z']
        rw [e4]
        exact k H1 S1
end
end OR

set_option Elab.async false
set_option maxRecDepth 100000
set_option maxHeartbeats 4000000
set_option linter.all false
namespace OR
open PySem PySem.Spec PyProof.Rows L2 TS2
def wordR {R : Type} : Pt R → Bool
  | .word z => isWord z
  | _ => false
theorem is_w {K : PySem.W.Frag} {R : Type} {H0 H : Hp} {RA : R → V → Prop} {p : Pt R} {v : V} {Q : VK} {E : XK} (h : PtAt K H0 RA p v) (S : Same H0 H) (n : ∀ z ∈ wordsP p, z.length ≤ 1000) (k : ∀ H', Same H H' → Q (.bl (wordR p)) H') : spIsWord K [v] H Q E := by
  have h : PtAt K H RA p v := PtAt.mono S (fun _ _ q => q) h
  cases p with
  | word z => exact .inl ⟨z, by rw [show v = .str z from h], Nat.le_of_lt (small1000 (n z List.mem_cons_self)), k⟩
  | words l =>
    obtain ⟨a, rfl, ha⟩ := h
    exact .inr ⟨_, rfl, ⟨_, tyT ha, kit_ty (by decide +kernel)⟩, k H (Same.refl H)⟩
  | rows l =>
    obtain ⟨a, xs, rfl, ha, _⟩ := h
    exact .inr ⟨_, rfl, ⟨_, tyL (SqL.of ha), kit_ty (by decide +kernel)⟩, k H (Same.refl H)⟩
  | sides ls =>
    obtain ⟨a, vs, rfl, ha, _⟩ := h
    exact .inr ⟨_, rfl, ⟨_, tyT ha, kit_ty (by decide +kernel)⟩, k H (Same.refl H)⟩
section
variable {P : Program} {w : World} {K : PySem.W.Frag} {mg : Str → Option Value} {base : Heap}
theorem ok_fits {f : Addr} {fd : FuncData} (F : FnP K "fits" "RowCheck.fits" s_RowCheck_fits f fd) (T : Tx w K mg) (G_is_word : Def P w K mg base CX0 1 "is_word" p_is_word (spIsWord K)) (G_are_words : Def P w K mg base CX0 2 "are_words" p_are_words (spAreWords K))
    (G_are_sides : Def P w K mg base CX0 1 "are_sides" p_are_sides (spSides K)) : FnOk P w K mg base CX0 3 f fd p_RowCheck_fits (spFits K) := by
  refine F.ok sc_RowCheck_fits (fun vs H Q E h => ?_) (fun cdv A outer s H vs Q E hr h => ?_)
  · obtain ⟨p, f, v, _, _, _, _, _, _, _, _, _, _, _, _, rfl, _⟩ := h
    rfl
  · obtain ⟨p, fm, v, d, H0, pt, ed, ka, ks, st, a, s', e, g, dx, rfl, rc, hp, S0, ⟨nw, nf, nk, n1, n2⟩, k⟩ := h
    have hu := hu_of hr
    obtain ⟨t1, mINPUT_SLOT⟩ := T.m_INPUT_SLOT
    obtain ⟨t2, mMOST_IN_ROW⟩ := T.m_MOST_IN_ROW
    refine ⟨_, PSs.nox (pss_cons (ps_if (pt_cmpR op_eq (pv 1) pe_str (nomark _)) (pss_one (ps_ret (pe_and (pe_fn G_is_word (hr.mono (by decide)) (by rfl) pass0 (pa_cons (pv 2) pa_nil)) (pe_one (pe_cmp (pc_din hu (pv 2) (pe_fld (pv 0) rfl))))))) pss_nil)
      (pss_cons (ps_if (pt_cmpR op_eq (pv 1) pe_str (nomark _)) (pss_one (ps_ret (pe_and (pe_fn G_is_word (hr.mono (by decide)) (by rfl) pass0 (pa_cons (pv 2) pa_nil)) (pe_one (pe_cmp (pc_din hu (pv 2) (pe_fld (pv 0) rfl))))))) pss_nil)
      (pss_cons (ps_if (pt_cmpR op_eq (pv 1) pe_str (nomark _)) (pss_one (ps_ret (pe_and (pe_fn G_is_word (hr.mono (by decide)) (by rfl) pass0 (pa_cons (pv 2) pa_nil)) (pe_one (pe_cmpR op_ne (pv 2) (pe_glob (by rfl) mINPUT_SLOT (show RelV (.str "in") _ from ⟨_, rfl⟩)) (nomark _)))))) pss_nil)
      (pss_cons (ps_if (pt_cmpR op_in_seq (pv 1) (pe_tup (pa_cons pe_str (pa_cons pe_str pa_nil))) (by rfl)) (pss_one (ps_ret (pe_fn G_are_words (hr.mono (by decide)) (by rfl) pass0 (pa_cons (pv 2) (pa_cons (pe_glob (by rfl) mMOST_IN_ROW (show RelV (.int (3)) _ from ⟨_, rfl⟩)) pa_nil))))) pss_nil)
      (pss_cons (ps_if (pt_cmpR op_eq (pv 1) pe_str (nomark _)) (pss_one (ps_ret (pe_callB call_isi (by rfl) T.b_isinstance (by decide +kernel) (pa_cons (pv 2) (pa_cons (pe_bltn (v := .ty "list") (u := .type "list") (by rfl) T.b_list (by decide +kernel) rfl) pa_nil))))) pss_nil)
      (pss_cons (ps_if (pt_cmpR op_eq (pv 1) pe_str (nomark _)) (pss_one (ps_ret (pe_fn G_are_sides (hr.mono (by decide)) (by rfl) pass0 (pa_cons (pv 2) pa_nil)))) pss_nil)
      (pss_one (ps_ret (pe_fn G_is_word (hr.mono (by decide)) (by rfl) pass0 (pa_cons (pv 2) pa_nil)))))))))), ?_⟩
    have hpH : PtAt K H (RowAt K H0 d) pt v := PtAt.mono S0 (fun _ _ q => q) hp
    refine ⟨_, rfl, rfl, _, rfl, ?_⟩
    by_cases c1 : fm = "ask"
    · have ef : fit ka ks fm pt = onWord (hasK ka) pt := by unfold fit; rw [if_pos c1]
      refine iteT' (decide_eq_true (by rw [c1])) ?_
      refine ⟨_, rfl, ?_⟩
      dsimp only [tNil, List.append_nil]
      refine is_w hp S0 nw (fun H1 S1 => ?_)
      refine ⟨_, rfl, ?_⟩
      have rc1 := rc.same S1
      cases pt with
      | word z =>
        cases (show v = .str z from hp)
        have k1 : Q (.bl (isWord z && hasK ka z)) H1 := by
          have q := k H1 S1
          rw [ef] at q
          exact q
        show if isWord z = true then _ else _
        cases ew : isWord z with
        | false =>
          rw [ew] at k1
          exact iteF k1
        | true =>
          rw [ew] at k1
          exact iteT ⟨_, rfl, _, rfl, p, _, dx, _, .ref a, rfl, rc1.ob, T.c_RowCheck, T.n_RowCheck_ask_table, rfl, a, _, rfl, DGet.k (k := .inr z) rc1.ha, k1⟩
      | words l => rw [ef] at k; exact iteF (k H1 S1)
      | rows l => rw [ef] at k; exact iteF (k H1 S1)
      | sides l => rw [ef] at k; exact iteF (k H1 S1)
    refine iteF' (decide_eq_false fun z => c1 (by injection z)) ?_
    refine ⟨_, rfl, rfl, _, rfl, ?_⟩
    by_cases c2 : fm = "signal"
    · have ef : fit ka ks fm pt = onWord (hasK ks) pt := by unfold fit; rw [if_neg c1, if_pos c2]
      refine iteT' (decide_eq_true (by rw [c2])) ?_
      refine ⟨_, rfl, ?_⟩
      dsimp only [tNil, List.append_nil]
      refine is_w hp S0 nw (fun H1 S1 => ?_)
      refine ⟨_, rfl, ?_⟩
      have rc1 := rc.same S1
      cases pt with
      | word z =>
        cases (show v = .str z from hp)
        have k1 : Q (.bl (isWord z && hasK ks z)) H1 := by
          have q := k H1 S1
          rw [ef] at q
          exact q
        show if isWord z = true then _ else _
        cases ew : isWord z with
        | false =>
          rw [ew] at k1
          exact iteF k1
        | true =>
          rw [ew] at k1
          exact iteT ⟨_, rfl, _, rfl, p, _, dx, _, .ref s', rfl, rc1.ob, T.c_RowCheck, T.n_RowCheck_signal_table, rfl, s', _, rfl, DGet.k (k := .inr z) rc1.hs, k1⟩
      | words l => rw [ef] at k; exact iteF (k H1 S1)
      | rows l => rw [ef] at k; exact iteF (k H1 S1)
      | sides l => rw [ef] at k; exact iteF (k H1 S1)
    refine iteF' (decide_eq_false fun z => c2 (by injection z)) ?_
    refine ⟨_, rfl, rfl, _, rfl, ?_⟩
    by_cases c3 : fm = "slot"
    · have ef : fit ka ks fm pt = onWord (fun z => decide (z ≠ "in")) pt := by unfold fit; rw [if_neg c1, if_neg c2, if_pos c3]
      refine iteT' (decide_eq_true (by rw [c3])) ?_
      refine ⟨_, rfl, ?_⟩
      dsimp only [tNil, List.append_nil]
      refine is_w hp S0 nw (fun H1 S1 => ?_)
      refine ⟨_, rfl, ?_⟩
      cases pt with
      | word z =>
        cases (show v = .str z from hp)
        have k1 : Q (.bl (isWord z && (fun z : Str => decide (z ≠ "in")) z)) H1 := by
          have q := k H1 S1
          rw [ef] at q
          exact q
        show if isWord z = true then _ else _
        cases ew : isWord z with
        | false =>
          rw [ew] at k1
          exact iteF k1
        | true =>
          rw [ew] at k1
          refine iteT ⟨_, rfl, rfl, ?_⟩
          have e5 : (!decide (V.str z = V.str "in")) = (true && decide (z ≠ "in")) := by
            by_cases q : z = "in" <;> simp [q]
          rw [e5]
          exact k1
      | words l => rw [ef] at k; exact iteF (k H1 S1)
      | rows l => rw [ef] at k; exact iteF (k H1 S1)
      | sides l => rw [ef] at k; exact iteF (k H1 S1)
    refine iteF' (decide_eq_false fun z => c3 (by injection z)) ?_
    refine ⟨_, rfl, by show 2 ≤ sizeLine; decide, fun t nt => ?_⟩
    refine ⟨t, _, rfl, .inr (SqT.of upd_same), rfl, rfl, _, rfl, ?_⟩
    have S1 : Same H (upd H t (.tup [.str "labels", .str "words"])) := Same.new nt
    have e6 : (if false = true then !inV (.str fm) [.str "labels", .str "words"] else inV (.str fm) [.str "labels", .str "words"]) = decide (fm = "labels" ∨ fm = "words") := by
      rw [if_neg (by decide)]
      have := inV_words (f := fm) ["labels", "words"]
      refine this.trans ?_
      simp
    rw [e6]
    generalize upd H t (.tup [.str "labels", .str "words"]) = H1 at S1 ⊢
    have hp1 : PtAt K H1 (RowAt K H0 d) pt v := PtAt.mono S1 (fun _ _ q => q) hpH
    by_cases c4 : fm = "labels" ∨ fm = "words"
    · have ef : fit ka ks fm pt = onWords (areW 3) pt := by unfold fit; rw [if_neg c1, if_neg c2, if_neg c3, if_pos c4]
      refine iteT' (decide_eq_true c4) ?_
      refine ⟨_, rfl, v, 3, rfl, ?_⟩
      cases pt with
      | word z =>
        cases (show v = .str z from hp)
        rw [ef] at k
        exact .inr ⟨⟨_, .base (.str z), kit_ty (by decide +kernel)⟩, k H1 S1⟩
      | words l =>
        obtain ⟨b, rfl, hb⟩ := hp1
        rw [ef] at k
        exact .inl ⟨b, l, rfl, hb, fun z hz => Nat.le_of_lt (small1000 (nw z hz)), by simp [wordsP] at nf; omega, fun H2 S2 => k H2 (S1.trans S2)⟩
      | rows l =>
        obtain ⟨b, xs, rfl, hb, _⟩ := hp1
        rw [ef] at k
        exact .inr ⟨⟨_, tyL (SqL.of hb), kit_ty (by decide +kernel)⟩, k H1 S1⟩
      | sides ls => exact absurd rfl (n1 c4 ls)
    refine iteF' (decide_eq_false c4) ?_
    refine ⟨_, rfl, rfl, _, rfl, ?_⟩
    by_cases c5 : fm = "rows"
    · have ef : fit ka ks fm pt = isRows pt := by unfold fit; rw [if_neg c1, if_neg c2, if_neg c3, if_neg c4, if_pos c5]
      refine iteT' (decide_eq_true (by rw [c5])) ?_
      rw [ef] at k
      cases pt with
      | word z =>
        cases (show v = .str z from hp)
        exact ⟨_, rfl, .str z, .ty "list", _, _, false, rfl, .ty _, .base (.str z), kit_ty (by decide +kernel), k H1 S1⟩
      | words l =>
        obtain ⟨b, rfl, hb⟩ := hp1
        exact ⟨_, rfl, .ref b, .ty "list", _, _, false, rfl, .ty _, tyT hb, kit_ty (by decide +kernel), k H1 S1⟩
      | rows l =>
        obtain ⟨b, xs, rfl, hb, _⟩ := hp1
        exact ⟨_, rfl, .ref b, .ty "list", _, _, true, rfl, .ty _, tyL (SqL.of hb), kit_ty (by decide +kernel), k H1 S1⟩
      | sides ls =>
        obtain ⟨b, vs, rfl, hb, _⟩ := hp1
        exact ⟨_, rfl, .ref b, .ty "list", _, _, false, rfl, .ty _, tyT hb, kit_ty (by decide +kernel), k H1 S1⟩
    refine iteF' (decide_eq_false fun z => c5 (by injection z)) ?_
    refine ⟨_, rfl, rfl, _, rfl, ?_⟩
    by_cases c6 : fm = "sides"
    · have ef : fit ka ks fm pt = onSides pt := by unfold fit; rw [if_neg c1, if_neg c2, if_neg c3, if_neg c4, if_neg c5, if_pos c6]
      refine iteT' (decide_eq_true (by rw [c6])) ?_
      rw [ef] at k
      refine ⟨_, rfl, v, rfl, ?_⟩
      cases pt with
      | word z =>
        cases (show v = .str z from hp)
        exact .inr ⟨⟨_, .base (.str z), kit_ty (by decide +kernel)⟩, k H1 S1⟩
      | words l => exact absurd rfl (n2 c6 l)
      | rows l =>
        obtain ⟨b, xs, rfl, hb, _⟩ := hp1
        exact .inr ⟨⟨_, tyL (SqL.of hb), kit_ty (by decide +kernel)⟩, k H1 S1⟩
      | sides ls =>
        obtain ⟨b, vs, rfl, hb, hls⟩ := hp1
        have el := hls.len
        refine .inl ⟨b, vs, rfl, hb, by simp [kidsP] at nk; omega, fun x hx => ?_, fun H2 S2 => ?_⟩
        · obtain ⟨i, hi⟩ := List.getElem?_of_mem hx
          obtain ⟨l, _, c, cs, rfl, hc, _⟩ := hls.other hi
          exact ⟨c, cs, rfl, hc⟩
        · rw [← el]
          exact k H2 (S1.trans S2)
    refine iteF' (decide_eq_false fun z => c6 (by injection z)) ?_
    have ef : fit ka ks fm pt = wordR pt := by
      unfold fit
      rw [if_neg c1, if_neg c2, if_neg c3, if_neg c4, if_neg c5, if_neg c6]
      cases pt <;> simp [onWord, wordR]
    refine ⟨_, rfl, ?_⟩
    dsimp only [tNil, List.append_nil]
    refine is_w hp (S0.trans S1) nw (fun H2 S2 => ?_)
    rw [ef] at k
    exact k H2 (S1.trans S2)
end
end OR

set_option Elab.async false
set_option maxRecDepth 100000
set_option maxHeartbeats 4000000
set_option linter.all false
namespace OR
open PySem PySem.Spec PyProof.Rows L2 TS2
theorem fit_kind {R : Type} {ka ks : List (Key × V)} {f : Str} {p : Pt R} (h : fit ka ks f p = true) : kindOk f p = true := by
  unfold fit at h
  by_cases c1 : f = "ask"
  · subst c1; cases p <;> first | (simp [onWord] at h; done) | decide +kernel | simp [kindOk] <;> decide +kernel
  rw [if_neg c1] at h
  by_cases c2 : f = "signal"
  · subst c2; cases p <;> first | (simp [onWord] at h; done) | decide +kernel | simp [kindOk] <;> decide +kernel
  rw [if_neg c2] at h
  by_cases c3 : f = "slot"
  · subst c3; cases p <;> first | (simp [onWord] at h; done) | decide +kernel | simp [kindOk] <;> decide +kernel
  rw [if_neg c3] at h
  by_cases c4 : f = "labels" ∨ f = "words"
  · rw [if_pos c4] at h
    cases p with
    | words l => simp [kindOk]; exact c4
    | word z => simp [onWords] at h
    | rows l => simp [onWords] at h
    | sides l => simp [onWords] at h
  rw [if_neg c4] at h
  by_cases c5 : f = "rows"
  · rw [if_pos c5] at h
    cases p with
    | words l => simp [isRows] at h
    | word z => simp [isRows] at h
    | rows l => simp [kindOk, c5]
    | sides l => simp [isRows] at h
  rw [if_neg c5] at h
  by_cases c6 : f = "sides"
  · rw [if_pos c6] at h
    cases p with
    | words l => simp [onSides] at h
    | word z => simp [onSides] at h
    | rows l => simp [onSides] at h
    | sides l => simp [kindOk, c6]
  rw [if_neg c6] at h
  cases p with
  | words l => simp [onWord] at h
  | word z =>
    have c7 : f ≠ "labels" := fun z => c4 (.inl z)
    have c8 : f ≠ "words" := fun z => c4 (.inr z)
    simp [kindOk, c5, c6, c7, c8]
  | rows l => simp [onWord] at h
  | sides l => simp [onWord] at h
theorem zip_kinds {R : Type} {ka ks : List (Key × V)} : ∀ {fs : List Str} {ps : List (Pt R)}, ps.length = fs.length → ((fs.zip ps).map fun x => fit ka ks x.1 x.2).all id = true → KindsOk fs ps
  | [], [], _, _ => .nil
  | f :: fs, p :: ps, h, a => by
    simp at a h
    exact .cons (fit_kind a.1) (zip_kinds h (by simpa using a.2))
  | [], _ :: _, h, _ => by simp at h
  | _ :: _, [], h, _ => by simp at h
theorem hasForm_kinds {R : Type} {ed : Bool} {ka ks : List (Key × V)} {w : Str} {fs : List Str} {ps : List (Pt R)} (h : hasForm ed ka ks w fs ps = true) : KindsOk fs ps := by
  unfold hasForm at h
  simp only [Bool.and_eq_true, decide_eq_true_eq] at h
  exact zip_kinds h.2.1 h.2.2
theorem ftab_edit : ∀ e ∈ ftab, ("edit" : Str) ∈ e.2 → e.2.head? = some ("edit" : Str) := by decide +kernel
theorem ftab_gate : ∀ e ∈ ftab, ("gate" : Str) ∈ e.2 → e.2.head? = some ("gate" : Str) := by decide +kernel
theorem first_at {R : Type} {f : Str} {fs : List Str} {ps : List (Pt R)} (hk : KindsOk fs ps) (h : fs.head? = some f) (n : f ≠ "rows" ∧ f ≠ "sides" ∧ f ≠ "labels" ∧ f ≠ "words") : ∃ z qs, ps = .word z :: qs := by
  cases ps with
  | nil =>
    cases hk
    simp at h
  | cons p qs =>
    cases hk with
    | cons h1 t =>
      simp at h
      subst h
      cases p with
      | word z => exact ⟨z, _, rfl⟩
      | words l => simp [kindOk] at h1; rcases h1 with h1 | h1 <;> simp [h1] at n
      | rows l => simp [kindOk] at h1; simp [h1] at n
      | sides l => simp [kindOk] at h1; simp [h1] at n
theorem RC.keep {K : PySem.W.Frag} {H H' : Hp} {p : Addr} {ed : Bool} {ka ks : List (Key × V)} {st st' : Sn} {a s e g dx : Addr} (c : RC K H p ed ka ks st a s e g dx) (k : Kp (fun b => b = e ∨ b = g) H H') (h1 : H' e = some (.dK st'.1)) (h2 : H' g = some (.dK st'.2)) : RC K H' p ed ka ks st' a s e g dx := by
  have pe : p ≠ e := ne_of c.ob c.he (by intro z; cases z)
  have pg : p ≠ g := ne_of c.ob c.hg (by intro z; cases z)
  exact ⟨k _ _ c.ob (by rintro (z | z); exact pe z; exact pg z), k _ _ c.ha (by rintro (z | z); exact c.ea.1 z; exact c.ea.2.1 z), k _ _ c.hs (by rintro (z | z); exact c.ea.2.2.1 z; exact c.ea.2.2.2 z), h1, h2, c.eg, c.ea⟩
section
variable {P : Program} {w : World} {K : PySem.W.Frag} {mg : Str → Option Value} {base : Heap}
theorem ok_has_form {f : Addr} {fd : FuncData} (F : FnP K "has_form" "RowCheck.has_form" s_RowCheck_has_form f fd) (T : Tx w K mg) (M_fits : MDef P w K mg base CX0 3 (He.ga K "RowCheck") "fits" p_RowCheck_fits (spFits K)) : FnOk P w K mg base CX0 4 f fd p_RowCheck_has_form (spHasForm K) := by
  refine F.ok sc_RowCheck_has_form (fun vs H Q E h => ?_) (fun cdv A outer s H vs Q E hr h => ?_)
  · obtain ⟨p, v, _, _, _, _, _, _, _, _, _, _, _, _, _, rfl, _⟩ := h
    rfl
  · obtain ⟨p, v, d, H0, r, fs, ed, ka, ks, st, a, s', e, g, dx, rfl, rc, ⟨b, vs, rfl, hb, hp⟩, S0, hf, nice, few, k⟩ := h
    obtain ⟨t1, mEDIT⟩ := T.m_EDIT
    have hb1 := sameT S0 hb
    obtain ⟨q, e1, hq⟩ := T.forms _ hf
    refine ⟨_, PSs.nox (pss_cons (ps_if (PW.pt (pw_or (pt_not (pt_val (pe_callB call_isi (by rfl) T.b_isinstance (by decide +kernel) (pa_cons (pv 1) (pa_cons (pe_bltn (v := .ty "tuple") (u := .type "tuple") (by rfl) T.b_tuple (by decide +kernel) rfl) pa_nil))))) (pw_or1 (pt_cmpR op_eq (pe_callB call_len_seq (by rfl) T.b_len PySem.boot_len (pa_cons (pv 1) pa_nil)) pe_int (nomark _))))) (pss_one (ps_ret pe_bl)) pss_nil)
      (pss_cons (ps_if (PW.pt (pw_or (pt_not (pt_val (pe_callB call_isi (by rfl) T.b_isinstance (by decide +kernel) (pa_cons (pe_ix ix_tup (pv 1) pe_int (fun _ _ => rfl)) (pa_cons (pe_bltn (v := .ty "str") (u := .type "str") (by rfl) T.b_str (by decide +kernel) rfl) pa_nil))))) (pw_or (pt_cmpR (op_notIn_kd' T.D_FORMS) (pe_ix ix_tup (pv 1) pe_int (fun _ _ => rfl)) (pe_ref (by rfl) T.m_FORMS) (by rfl)) (pw_or1 (PW.pt (pw_and (pt_cmpR op_eq (pe_ix ix_tup (pv 1) pe_int (fun _ _ => rfl)) (pe_glob (by rfl) mEDIT (show RelV (.str "edit") _ from ⟨_, rfl⟩)) (nomark _)) (pw_and1 (pt_not (pt_val (pe_fld (pv 0) rfl)))))))))) (pss_one (ps_ret pe_bl)) pss_nil)
      (pss_cons (ps_set (i := 2) sc_RowCheck_has_form.nd rfl (.inl rfl) (pe_ix ix_kdict (pe_ref (by rfl) T.m_FORMS) (pe_ix ix_tup (pv 1) pe_int (fun _ _ => rfl)) (fun _ _ => rfl)))
      (pss_cons (ps_if (pt_cmpR op_ne (pe_callB call_len_seq (by rfl) T.b_len PySem.boot_len (pa_cons (pv 1) pa_nil)) (pe_op op_add pe_int (pe_callB call_len_seq (by rfl) T.b_len PySem.boot_len (pa_cons (pv 2) pa_nil))) (nomark _)) (pss_one (ps_ret pe_bl)) pss_nil)
      (pss_one (ps_ret (pe_callB (cr_all rfl) (by rfl) T.b_all (by decide +kernel) (pa_cons (pe_lc (own := [("form", 3), ("part", 4)]) (g := (gTup K 2 (gCons (gName 3) (gCons (gName 4) gNil)))) (by rfl) sc_RowCheck_has_form.nd (RZ.pi_zipA (by rfl) T.b_zip (pa_cons (pv 2) (pa_cons (pe_slice sl_tup (pv 1) (po_some pe_int) po_none) pa_nil))) (blkOk_by (N := n_RowCheck_has_form) (sc := defScope s_RowCheck_has_form) (by decide +kernel)) (fun _ _ _ _ _ => (pg_tup (by rfl) (pgs_cons (pg_name (i := 3) sc_RowCheck_has_form.nd rfl (.inl rfl)) (pgs_cons (pg_name (i := 4) sc_RowCheck_has_form.nd rfl (.inl rfl)) pgs_nil)))) (fun _ _ _ _ _ => pts_nil) (fun _ _ _ _ _ => (pe_mth M_fits (hr.mono (by decide)) pass0 (pv 0) (pa_cons (pv 3) (pa_cons (pv 4) pa_nil))))) pa_nil)))))))), ?_⟩
    refine ⟨_, rfl, .ref b, .ty "tuple", _, _, true, rfl, .ty _, tyT hb1, kit_ty (by decide +kernel), _, rfl, ?_⟩
    refine iteF ⟨_, rfl, b, _, rfl, .inr hb1, rfl, _, rfl, ?_⟩
    refine iteF' (decide_eq_false fun z => by injection z with z; simp only [List.length_cons] at z; omega) ?_
    refine ⟨_, rfl, b, _, _, .str r.1, rfl, rfl, hb1, at0, .str r.1, .ty "str", _, _, true, rfl, .ty _, .base (.str _), kit_ty (by decide +kernel), _, rfl, ?_⟩
    refine iteF ?_
    refine ⟨_, rfl, b, _, _, .str r.1, rfl, rfl, hb1, at0, _, _, rfl, rfl, e1, _, rfl, ?_⟩
    refine iteF ?_
    refine ⟨_, rfl, b, _, _, .str r.1, rfl, rfl, hb1, at0, rfl, _, rfl, ?_⟩
    have cc : (r.1 = "edit" ∧ ed = false) ∨ (r.1 = "edit" ∧ ed = true) ∨ r.1 ≠ "edit" := by
      by_cases c : r.1 = "edit"
      · cases ed
        · exact .inl ⟨c, rfl⟩
        · exact .inr (.inl ⟨c, rfl⟩)
      · exact .inr (.inr c)
    rcases cc with ⟨c, rfl⟩ | ⟨c, rfl⟩ | c
    · refine iteT' (decide_eq_true (by rw [c])) ?_
      refine ⟨_, rfl, p, _, dx, _, .bl false, rfl, rc.ob, T.c_RowCheck, T.n_RowCheck_with_edits, rfl, _, rfl, ?_⟩
      refine iteT ?_
      have e2 : hasForm false ka ks r.1 fs r.2 = false := by unfold hasForm; simp [c]
      rw [e2] at k
      exact k H (Same.refl H)
    refine iteT' (decide_eq_true (by rw [c])) ?_
    refine ⟨_, rfl, p, _, dx, _, .bl true, rfl, rc.ob, T.c_RowCheck, T.n_RowCheck_with_edits, rfl, _, rfl, ?_⟩
    refine iteF ?_
    have e2 : hasForm true ka ks r.1 fs r.2 = (decide (r.2.length = fs.length) && ((fs.zip r.2).map fun x => fit ka ks x.1 x.2).all id) := by unfold hasForm; simp
    rotate_left
    refine iteF' (decide_eq_false fun z => c (by injection z)) ?_
    have e2 : hasForm ed ka ks r.1 fs r.2 = (decide (r.2.length = fs.length) && ((fs.zip r.2).map fun x => fit ka ks x.1 x.2).all id) := by unfold hasForm; simp [c]
    rotate_left
    all_goals
      rw [e2] at k
      have lp := hp.len
      refine ⟨_, rfl, b, _, _, .str r.1, rfl, rfl, hb1, at0, _, _, .ref q, rfl, rfl, kdct T.D_FORMS e1 rfl, ?_⟩
      refine ⟨_, rfl, b, _, rfl, .inr hb1, _, rfl, q, _, rfl, .inr (hq _), _, _, rfl, rfl, rfl, _, rfl, ?_⟩
      by_cases cl : r.2.length = fs.length
      · have e3 : (!decide (V.int ((V.str r.1 :: vs).length : Int) = V.int (1 + ((fs.map V.str).length : Int)))) = false := by
          rw [decide_eq_true (by congr 1; simp only [List.length_cons, List.length_map]; omega)]
          rfl
        refine iteF' e3 ?_
        rw [decide_eq_true cl] at k
        refine ⟨_, rfl, _, rfl, 1, rfl, b, _, rfl, hb1, by rw [List.length_cons]; exact not_whole, fun t nt => ?_⟩
        rw [cut1]
        have S1 : Same H (upd H t (.tup vs)) := Same.new nt
        have ht : upd H t (.tup vs) t = some (.tup vs) := upd_same
        generalize upd H t (.tup vs) = H1 at S1 ht ⊢
        refine ⟨q, t, fs.map V.str, vs, rfl, .inr ⟨hq _, SqT.of ht, fun D nD => ?_⟩⟩
        refine lc_it (walk_zipT (K := K) (a := q) (b := t) (xs := fs.map V.str) (ys := vs) (n := vs.length) (by rw [List.length_map, ← lp, cl]; simp)) (fun i H2 => Same H1 H2 ∧ H2 D = some (.lst ((((fs.zip r.2).map fun x => fit ka ks x.1 x.2).take i).map V.bl))) ⟨Same.new nD, upd_same⟩
          (fun i H2 _ q2 => ⟨hq _, sameT q2.1 (SqT.of ht)⟩) (fun i x H2 H3 hi p2 y => ?_) (fun H2 p2 => ?_)
        · obtain ⟨T1, fm, v, rfl, nT, rfl, hx, hy⟩ := y
          obtain ⟨S2, hD⟩ := p2
          have hx : (fs.map V.str)[i]? = some fm := hx
          have hy : vs[i]? = some v := hy
          rw [List.getElem?_map] at hx
          cases ef : fs[i]? with
          | none => rw [ef] at hx; cases hx
          | some f0 =>
            rw [ef] at hx
            cases Option.some.inj hx
            obtain ⟨pt, hpt, hpat⟩ := hp.other hy
            have hz : (fs.zip r.2)[i]? = some (f0, pt) := by rw [List.getElem?_zip_eq_some]; exact ⟨ef, hpt⟩
            refine ⟨T1, _, rfl, SqT.of upd_same, rfl, _, _, rfl, _, _, rfl, rfl, rfl, ?_⟩
            refine tYes_ ?_
            refine iteT ?_
            have S3 : Same H2 (upd H2 T1 (.tup [.str f0, v])) := Same.new nT
            refine ⟨_, rfl, p, dx, _, rfl, S3 _ _ (S2 _ _ (S1 _ _ rc.ob)), rfl, _, rfl, _, rfl, ?_⟩
            refine ⟨p, f0, v, d, H0, pt, _, ka, ks, st, a, s', e, g, dx, rfl, ((rc.same S1).same S2).same S3, hpat, S0.trans (S1.trans (S2.trans S3)), nice _ (List.mem_of_getElem? hz), fun H4 S4 => ?_⟩
            have hD4 : H4 D = _ := S4 _ _ (by rw [upd_ne (ne_of_none hD nT)]; exact hD)
            refine ⟨_, hD4, ?_, fun b o hb => ?_, ?_⟩
            · rw [List.length_map, List.length_take, List.length_map, List.length_zip]
              exact small1000 (by omega)
            · have nb : b ≠ D := fun z => by rw [z, nD] at hb; cases hb
              rw [upd_ne nb]
              exact S4 _ _ (by rw [upd_ne (ne_of_none (S2 _ _ hb) nT)]; exact S2 _ _ hb)
            · rw [upd_same, take_more (x := fit ka ks f0 pt) (by rw [List.getElem?_map, hz]; rfl), List.map_append]
              rfl
        · obtain ⟨S2, hD⟩ := p2
          refine ⟨D, (fs.zip r.2).map fun x => fit ka ks x.1 x.2, rfl, SqL.of ?_, ?_⟩
          · rw [hD, List.take_of_length_le (by rw [List.length_map, List.length_zip]; omega)]
          · exact k _ (S1.trans S2)
      · have e3 : (!decide (V.int ((V.str r.1 :: vs).length : Int) = V.int (1 + ((fs.map V.str).length : Int)))) = true := by
          rw [decide_eq_false (fun z => by injection z with z; simp only [List.length_cons, List.length_map] at z; omega)]
          rfl
        refine iteT' e3 ?_
        rw [decide_eq_false cl] at k
        exact k H (Same.refl H)
theorem ok_is_new {f : Addr} {fd : FuncData} (F : FnP K "is_new" "RowCheck.is_new" s_RowCheck_is_new f fd) (T : Tx w K mg) : FnOk P w K mg base CX0 1 f fd p_RowCheck_is_new (spIsNew K) := by
  refine F.ok sc_RowCheck_is_new (fun vs H Q E h => ?_) (fun cdv A outer s H vs Q E hr h => ?_)
  · obtain ⟨p, v, _, _, _, _, _, _, _, _, _, _, _, _, _, rfl, _⟩ := h
    rfl
  · obtain ⟨p, v, d, H0, r, fs, ed, ka, ks, st, a, s', e, g, dx, rfl, rc, ⟨b, vs, rfl, hb, hp⟩, S0, ne, ng, hf, hk, l1, l2, k⟩ := h
    have hu := hu_of hr
    have hb1 := sameT S0 hb
    obtain ⟨q, e1, hq⟩ := T.forms _ hf
    refine ⟨_, PSs.nox (pss_cons (ps_set (i := 2) sc_RowCheck_is_new.nd rfl (.inl rfl) (pe_ix ix_kdict (pe_ref (by rfl) T.m_FORMS) (pe_ix ix_tup (pv 1) pe_int (fun _ _ => rfl)) (fun _ _ => rfl)))
      (pss_cons (ps_if (pt_cmpR op_in_seq pe_str (pv 2) (by rfl)) (pss_cons (ps_set (i := 3) sc_RowCheck_is_new.nd rfl (.inl rfl) (pe_and (pe_cmp (pc_dnotin hu (pe_ix ix_tup (pv 1) pe_int (fun _ _ => rfl)) (pe_fld (pv 0) rfl))) (pe_one (pe_cmp (pc_dnotin hu (pe_ix ix_tup (pv 1) pe_int (fun _ _ => rfl)) (pe_fld (pv 0) rfl))))))
      (pss_cons (ps_dput hu (pe_fld (pv 0) rfl) (pe_ix ix_tup (pv 1) pe_int (fun _ _ => rfl)) pe_bl rfl)
      (pss_one (ps_ret (pv 3))))) pss_nil)
      (pss_cons (ps_if (pt_cmpR op_in_seq pe_str (pv 2) (by rfl)) (pss_cons (ps_dput hu (pe_fld (pv 0) rfl) (pe_ix ix_tup (pv 1) pe_int (fun _ _ => rfl)) pe_bl rfl)
      (pss_one (ps_ret (pe_cmp (pc_dnotin hu (pe_ix ix_tup (pv 1) pe_int (fun _ _ => rfl)) (pe_fld (pv 0) rfl)))))) pss_nil)
      (pss_one (ps_ret pe_bl))))), ?_⟩
    refine ⟨_, rfl, b, _, _, .str r.1, rfl, rfl, hb1, at0, _, _, .ref q, rfl, rfl, kdct T.D_FORMS e1 rfl, ?_⟩
    refine ⟨_, rfl, q, _, rfl, .inr (hq _), rfl, flat_words _, _, rfl, ?_⟩
    have e3 : ∀ x : Str, (if false = true then !inV (.str x) (fs.map V.str) else inV (.str x) (fs.map V.str)) = decide (x ∈ fs) := fun x => inV_words _
    rw [e3]
    by_cases c1 : ("edit" : Str) ∈ fs
    · obtain ⟨z, qs, er⟩ := first_at hk (ftab_edit _ hf c1) (by decide +kernel)
      rw [er] at hp
      cases hp with
      | cons hz hp' =>
        rename_i y ys
        cases (show y = .str z from hz)
        have ei : isNew fs r.2 st = (!hasK st.1 z && !hasK st.2 z, (putK st.1 (Sum.inr z) (.bl true), st.2)) := by unfold isNew; rw [if_pos c1, er]; rfl
        rw [ei] at k
        refine iteT' (decide_eq_true c1) ?_
        have k2 := k _ (Kp.put (C := fun b => b = e ∨ b = g) (.inl rfl)) (rc.keep (st' := (putK st.1 (Sum.inr z) (.bl true), st.2)) (Kp.put (C := fun b => b = e ∨ b = g) (.inl rfl)) upd_same (by rw [upd_ne rc.eg.symm]; exact rc.hg))
        refine ⟨_, rfl, b, _, _, .str z, rfl, rfl, hb1, at1, _, rfl, p, _, dx, _, .ref e, rfl, rc.ob, T.c_RowCheck, T.n_RowCheck_seen_edits, rfl, e, _, rfl, DGet.k (k := .inr z) rc.he, _, rfl, ?_⟩
        cases c2 : hasK st.1 z with
        | true =>
          rw [c2] at k2
          refine iteF' (by show (!hasK st.1 z) = false; rw [c2]; rfl) ?_
          refine ⟨_, rfl, p, _, dx, _, .ref e, rfl, rc.ob, T.c_RowCheck, T.n_RowCheck_seen_edits, rfl, _, rfl, b, _, _, .str z, rfl, rfl, hb1, at1, e, _, rfl, DPut.k (k := .inr z) rc.he (Nat.lt_of_le_of_lt l1 (by decide)), ?_⟩
          exact ⟨_, rfl, k2⟩
        | false =>
          rw [c2] at k2
          refine iteT' (by show (!hasK st.1 z) = true; rw [c2]; rfl) ?_
          refine ⟨_, rfl, b, _, _, .str z, rfl, rfl, hb1, at1, _, rfl, p, _, dx, _, .ref g, rfl, rc.ob, T.c_RowCheck, T.n_RowCheck_seen_gates, rfl, g, _, rfl, DGet.k (k := .inr z) rc.hg, ?_⟩
          refine ⟨_, rfl, p, _, dx, _, .ref e, rfl, rc.ob, T.c_RowCheck, T.n_RowCheck_seen_edits, rfl, _, rfl, b, _, _, .str z, rfl, rfl, hb1, at1, e, _, rfl, DPut.k (k := .inr z) rc.he (Nat.lt_of_le_of_lt l1 (by decide)), ?_⟩
          exact ⟨_, rfl, k2⟩
    · refine iteF' (decide_eq_false c1) ?_
      refine ⟨_, rfl, q, _, rfl, .inr (hq _), rfl, flat_words _, _, rfl, ?_⟩
      rw [e3]
      by_cases c2 : ("gate" : Str) ∈ fs
      · obtain ⟨z, qs, er⟩ := first_at hk (ftab_gate _ hf c2) (by decide +kernel)
        rw [er] at hp
        cases hp with
        | cons hz hp' =>
          rename_i y ys
          cases (show y = .str z from hz)
          have ei : isNew fs r.2 st = (!hasK st.1 z, (st.1, putK st.2 (Sum.inr z) (.bl true))) := by unfold isNew; rw [if_neg c1, if_pos c2, er]; rfl
          rw [ei] at k
          refine iteT' (decide_eq_true c2) ?_
          have K1 : Kp (fun b => b = e ∨ b = g) H (upd H g (.dK (putK st.2 (Sum.inr z) (.bl true)))) := Kp.put (C := fun b => b = e ∨ b = g) (.inr rfl)
          have rc2 := rc.keep (st' := (st.1, putK st.2 (Sum.inr z) (.bl true))) K1 (by rw [upd_ne rc.eg]; exact rc.he) upd_same
          have k2 := k _ K1 rc2
          refine ⟨_, rfl, p, _, dx, _, .ref g, rfl, rc.ob, T.c_RowCheck, T.n_RowCheck_seen_gates, rfl, _, rfl, b, _, _, .str z, rfl, rfl, hb1, at1, g, _, rfl, DPut.k (k := .inr z) rc.hg (Nat.lt_of_le_of_lt l2 (by decide)), ?_⟩
          have hb2 : SqT K (upd H g (.dK (putK st.2 (Sum.inr z) (.bl true)))) b (.str r.1 :: .str z :: ys) := sameT (Kp.base S0 K1 (by rintro c (rfl | rfl); exact ne; exact ng)) hb
          refine ⟨_, rfl, b, _, _, .str z, rfl, rfl, hb2, at1, _, rfl, p, _, dx, _, .ref e, rfl, rc2.ob, T.c_RowCheck, T.n_RowCheck_seen_edits, rfl, e, _, rfl, DGet.k (k := .inr z) rc2.he, k2⟩
      · refine iteF' (decide_eq_false c2) ?_
        have ei : isNew fs r.2 st = (true, st) := by unfold isNew; rw [if_neg c1, if_neg c2]
        rw [ei] at k
        exact k H (Kp.refl H) rc
end
end OR

set_option Elab.async false
set_option maxRecDepth 100000
set_option maxHeartbeats 4000000
set_option linter.all false
namespace OR
open PySem PySem.Spec PyProof.Rows L2 TS2
def fsOf (w : Str) : List Str := (ftab.lookup w).getD []
theorem fsOf_at : ∀ e ∈ ftab, fsOf e.1 = e.2 := by decide +kernel
/-- one after another, each at its place behind the path; the first that stops it, and where -/
def seqChk {α : Type} (f : α → List Int → Sn → Option (List Int) × Sn) (pre : List Int) : List α → Nat → Sn → Option (List Int) × Sn
  | [], _, st => (none, st)
  | x :: xs, i, st => match f x (pre ++ [(i : Int)]) st with
    | (some p, st') => (some p, st')
    | (none, st') => seqChk f pre xs (i + 1) st'
def innerLoop (w : Str) (il : Bool) : Bool := decide (w = "loop") || (il && decide (w ≠ "both"))
/-- the check of one row: kid the check of a list within -/
def oneChk {R : Type} (ed : Bool) (ka ks : List (Key × V)) (kid : Bool → List R → List Int → Sn → Option (List Int) × Sn) (il : Bool) (r : Str × List (Pt R)) (path : List Int) (st : Sn) : Option (List Int) × Sn :=
  if hasForm ed ka ks r.1 (fsOf r.1) r.2 && mayS r.1 path.length il (kids r.2).length then
    (if (isNew (fsOf r.1) r.2 st).1 then seqChk (kid (innerLoop r.1 il)) path (kids r.2) 0 (isNew (fsOf r.1) r.2 st).2 else (some path, (isNew (fsOf r.1) r.2 st).2))
  else (some path, st)
def chk (ed : Bool) (ka ks : List (Key × V)) : (d : Nat) → Bool → List (Row d) → List Int → Sn → Option (List Int) × Sn
  | 0, _, _, _, st => (none, st)
  | d + 1, il, rows, pre, st => seqChk (oneChk ed ka ks (chk ed ka ks d) il) pre rows 0 st
def len2 (st : Sn) : Nat := st.1.length + st.2.length
theorem seqChk_len {α : Type} {f : α → List Int → Sn → Option (List Int) × Sn} {m : α → Nat} {pre : List Int} : ∀ {l : List α} {i : Nat} {st : Sn}, (∀ x ∈ l, ∀ p st, len2 (f x p st).2 ≤ len2 st + m x) → len2 (seqChk f pre l i st).2 ≤ len2 st + (l.map m).sum
  | [], i, st, _ => by simp [seqChk]
  | x :: xs, i, st, h => by
    have h1 := h x List.mem_cons_self (pre ++ [(i : Int)]) st
    unfold seqChk
    cases e : f x (pre ++ [(i : Int)]) st with
    | mk o st' =>
      rw [e] at h1
      cases o with
      | some p => simp at h1 ⊢; omega
      | none =>
        have h2 := seqChk_len (l := xs) (i := i + 1) (st := st') (pre := pre) fun y hy => h y (List.mem_cons_of_mem _ hy)
        simp at h1 h2 ⊢
        omega
theorem isNew_len {R : Type} (fs : List Str) (ps : List (Pt R)) (st : Sn) : len2 (isNew fs ps st).2 ≤ len2 st + 1 := by
  unfold isNew len2
  split
  · have := length_putK st.1 (Sum.inr (firstW ps)) (.bl true)
    simp; omega
  · split
    · have := length_putK st.2 (Sum.inr (firstW ps)) (.bl true)
      simp; omega
    · simp
theorem chk_len (ed : Bool) (ka ks : List (Key × V)) : ∀ (d : Nat) (il : Bool) (rows : List (Row d)) (pre : List Int) (st : Sn), len2 (chk ed ka ks d il rows pre st).2 ≤ len2 st + lsz d rows
  | 0, il, rows, pre, st => by simp [chk]
  | d + 1, il, rows, pre, st => by
    refine seqChk_len (m := rsz (d + 1)) fun r _ p st => ?_
    have e : rsz (d + 1) r = 1 + ((kids r.2).map (lsz d)).sum := rfl
    rw [e]
    unfold oneChk
    have h1 := isNew_len (fsOf r.1) r.2 st
    split
    · split
      · have h2 := seqChk_len (f := chk ed ka ks d (innerLoop r.1 il)) (m := lsz d) (pre := p) (l := kids r.2) (i := 0) (st := (isNew (fsOf r.1) r.2 st).2) fun l _ p st => chk_len ed ka ks d _ l p st
        omega
      · show len2 (isNew (fsOf r.1) r.2 st).2 ≤ _
        omega
    · show len2 st ≤ _
      omega
/-- what is asked of rows that are checked -/
def Pre : (d : Nat) → Row d → Prop
  | 0, r => nomatch r
  | d + 1, r => (r.1, fsOf r.1) ∈ ftab ∧ (∀ x ∈ (fsOf r.1).zip r.2, Nice x.1 x.2) ∧ r.2.length ≤ 1000 ∧ (kids r.2).length ≤ 1000 ∧ ∀ l ∈ kids r.2, l.length ≤ 1000 ∧ ∀ r' ∈ l, Pre d r'
abbrev cIP (K : PySem.W.Frag) : Addr := He.ga K "InvalidProgram"
/-- the refusal of a row -/
def Refuses (K : PySem.W.Frag) (C : Addr → Prop) (H : Hp) (part : Str) (path : List Int) (E : XK) : Prop := ∀ (dd t : Addr) (H' : Hp), Kp C H H' → H dd = none → H' dd = some (.xd [("path", .ref t), ("part", .str part)]) → SqT K H' t (path.map V.int) → E (.ref (cIP K)) (some dd) H'
def spCheck (K : PySem.W.Frag) : Nat → Sp
  | 0 => fun _ _ _ _ => False
  | d + 1 => fun vs H Q E => ∃ (p r t : Addr) (il : Bool) (H0 : Hp) (rows : List (Row d)) (xs : List V) (pre : List Int) (ed : Bool) (ka ks : List (Key × V)) (st : Sn) (a s e g dx : Addr), vs = [.ref p, .ref r, .ref t, .bl il] ∧ RC K H p ed ka ks st a s e g dx ∧
    H0 r = some (.lst xs) ∧ Same H0 H ∧ H0 e = none ∧ H0 g = none ∧ All2 (RowAt K H0 d) rows xs ∧ (∀ r ∈ rows, Pre d r) ∧ SqT K H t (pre.map V.int) ∧ pre.length + 2 * d ≤ 90 ∧ len2 st + lsz d rows ≤ 3000 ∧ t ≠ e ∧ t ≠ g ∧
    ((chk ed ka ks d il rows pre st).1 = none → ∀ H', Kp (fun b => b = e ∨ b = g) H H' → RC K H' p ed ka ks (chk ed ka ks d il rows pre st).2 a s e g dx → Q .non H') ∧
    (∀ path, (chk ed ka ks d il rows pre st).1 = some path → Refuses K (fun b => b = e ∨ b = g) H "rows" path E)
theorem cat_path {K : PySem.W.Frag} {H : Hp} {t0 t1 : Addr} {xs : List V} {y : V} {Q : VK} (h0 : SqT K H t0 xs) (h1 : H t1 = some (.tup [y])) (few : xs.length ≤ 1000) (k : ∀ H' tp, Same H H' → SqT K H' tp (xs ++ [y]) → (H' tp = some (.tup (xs ++ [y])) ∧ (tp = t1 ∨ H tp = none)) → Q (.ref tp) H') : rCatA K (.ref t0) (.ref t1) H Q := by
  refine ⟨t0, t1, xs, [y], rfl, rfl, h0, SqT.of h1, Nat.le_of_lt (Nat.lt_of_le_of_lt (Nat.add_le_add_right few 1) (by decide)), fun z => ?_, fun _ z => by simp at z, fun _ _ p np => ?_⟩
  · subst z
    exact k H t1 (Same.refl H) (SqT.of h1) ⟨h1, .inl rfl⟩
  · exact k _ p (Same.new np) (SqT.of upd_same) ⟨upd_same, .inr np⟩
theorem seq_drop {α : Type} {f : α → List Int → Sn → Option (List Int) × Sn} {pre : List Int} {l : List α} {i : Nat} {x : α} {st : Sn} (h : l[i]? = some x) : seqChk f pre (l.drop i) i st = (match f x (pre ++ [(i : Int)]) st with
    | (some p, st') => (some p, st')
    | (none, st') => seqChk f pre (l.drop (i + 1)) (i + 1) st') := by
  obtain ⟨lt, e⟩ := List.getElem?_eq_some_iff.mp h
  rw [List.drop_eq_getElem_cons lt, e]
  rfl
theorem sum_drop {α : Type} (m : α → Nat) {l : List α} {i : Nat} {x : α} (h : l[i]? = some x) : ((l.drop i).map m).sum = m x + ((l.drop (i + 1)).map m).sum := by
  obtain ⟨lt, e⟩ := List.getElem?_eq_some_iff.mp h
  rw [List.drop_eq_getElem_cons lt, e]
  simp
theorem RC.free {K : PySem.W.Frag} {H H8 : Hp} {p : Addr} {ed : Bool} {ka ks : List (Key × V)} {st8 : Sn} {a s e g dx d0 : Addr} (k : Kp (fun b => b = e ∨ b = g) H H8) (rc : RC K H8 p ed ka ks st8 a s e g dx) (nd : H8 d0 = none) : H d0 = none := by
  cases q : H d0 with
  | none => rfl
  | some o =>
    have z := k d0 o q (by
      rintro (z | z)
      · rw [z, rc.he] at nd; cases nd
      · rw [z, rc.hg] at nd; cases nd)
    rw [nd] at z
    cases z
theorem refused {K : PySem.W.Frag} {H H8 : Hp} {p : Addr} {ed : Bool} {ka ks : List (Key × V)} {st8 : Sn} {a s e g dx tp : Addr} {path : List Int} {E : XK} {part : Str} (k : Kp (fun b => b = e ∨ b = g) H H8) (rc : RC K H8 p ed ka ks st8 a s e g dx) (ht : SqT K H8 tp (path.map V.int))
    (r : Refuses K (fun b => b = e ∨ b = g) H part path E) (d0 : Addr) (H' : Hp) (nd : H8 d0 = none) (hd : H' d0 = some (.xd [("path", .ref tp), ("part", .str part)])) (oth : ∀ b, b ≠ d0 → H' b = H8 b) : E (.ref (cIP K)) (some d0) H' := by
  have S : Same H8 H' := fun b o h => by rw [oth b (ne_of_none h nd)]; exact h
  exact r d0 tp H' (k.trans (Kp.of S)) (RC.free k rc nd) hd (sameT S ht)
section
variable {P : Program} {w : World} {K : PySem.W.Frag} {mg : Str → Option Value} {base : Heap}
theorem ok_check_list {k0 d : Nat} {f : Addr} {fd : FuncData} (F : FnP K "check_list" "RowCheck.check_list" s_RowCheck_check_list f fd) (T : Tx w K mg) (h5 : 5 ≤ k0) (E_InvalidProgram : ErrDef P w K mg base CX0 1 "InvalidProgram" (cIP K) ["self", "part", "path"] ["part", "path"])
    (G_lists_of : Def P w K mg base CX0 1 "lists_of" p_lists_of (spListsOf K)) (G_may_stand : Def P w K mg base CX0 2 "may_stand" p_may_stand (spMay K)) (M_has_form : MDef P w K mg base CX0 4 (He.ga K "RowCheck") "has_form" p_RowCheck_has_form (spHasForm K))
    (M_is_new : MDef P w K mg base CX0 1 (He.ga K "RowCheck") "is_new" p_RowCheck_is_new (spIsNew K)) (M_check_list : MDef P w K mg base (L2.CX P w) k0 (He.ga K "RowCheck") "check_list" p_RowCheck_check_list (spCheck K d)) :
    FnOk P w K mg base (L2.CX P w) (k0 + 1) f fd p_RowCheck_check_list (spCheck K (d + 1)) := by
  refine F.ok sc_RowCheck_check_list (fun vs H Q E h => ?_) (fun cdv A outer s H vs Q E hr h => ?_)
  · obtain ⟨p, r, t, il, _, _, _, _, _, _, _, _, _, _, _, _, _, rfl, _⟩ := h
    rfl
  · obtain ⟨p, r, t, il, H0, rows, xs, pre, ed, ka, ks, st, a, s', e, g, dx, rfl, rc, hr0, S0, ne, ng, hp, prr, ht, fewp, fews, te, tg, kq, ke⟩ := h
    refine ⟨_, (pss_one (ps_for (passes_of rfl) rfl (pi_enum (by rfl) T.b_enumerate (pa_cons (pv 1) pa_nil)) (pg_tup (by rfl) (pgs_cons (pg_name (i := 4) sc_RowCheck_check_list.nd rfl (.inl rfl)) (pgs_cons (pg_name (i := 5) sc_RowCheck_check_list.nd rfl (.inl rfl)) pgs_nil))) (pss_cons (ps_set (i := 6) sc_RowCheck_check_list.nd rfl (.inl rfl) (pe_op op_catA (pv 2) (pe_tup (pa_cons (pv 4) pa_nil))))
      (pss_cons (ps_if (PW.pt (pw_or (pt_not (pt_val (pe_mth M_has_form (hr.mono (by omega)) pass0 (pv 0) (pa_cons (pv 5) pa_nil)))) (pw_or (pt_not (pt_val (pe_fn G_may_stand (hr.mono (by omega)) (by rfl) pass0 (pa_cons (pv 5) (pa_cons (pv 6) (pa_cons (pv 3) pa_nil)))))) (pw_or1 (pt_not (pt_val (pe_mth M_is_new (hr.mono (by omega)) pass0 (pv 0) (pa_cons (pv 5) pa_nil)))))))) (pss_one (ps_raise rfl (takes_of rfl rfl rfl rfl) (pmk_errL E_InvalidProgram (hr.mono (by omega)) (by rfl) pass0 (pa_cons pe_str (pa_cons (pv 6) pa_nil))))) pss_nil)
      (pss_cons (ps_set (i := 7) sc_RowCheck_check_list.nd rfl (.inl rfl) (pe_or (pe_cmpR op_eq (pe_ix ix_tup (pv 5) pe_int (fun _ _ => rfl)) pe_str (nomark _)) (pe_one (pe_and (pv 3) (pe_one (pe_cmpR op_ne (pe_ix ix_tup (pv 5) pe_int (fun _ _ => rfl)) pe_str (nomark _)))))))
      (pss_one (ps_for (passes_of rfl) rfl (pi_enum (by rfl) T.b_enumerate (pa_cons (pe_fn G_lists_of (hr.mono (by omega)) (by rfl) pass0 (pa_cons (pv 5) pa_nil)) pa_nil)) (pg_tup (by rfl) (pgs_cons (pg_name (i := 8) sc_RowCheck_check_list.nd rfl (.inl rfl)) (pgs_cons (pg_name (i := 9) sc_RowCheck_check_list.nd rfl (.inl rfl)) pgs_nil))) (pss_one (ps_expr (pe_mth M_check_list (hr.mono (by omega)) (passes_call (W := fun c d _ H => E c d H) (takes_of rfl rfl rfl rfl) (fun _ _ _ _ h => h)) (pv 0) (pa_cons (pv 9) (pa_cons (pe_op op_catA (pv 6) (pe_tup (pa_cons (pv 8) pa_nil))) (pa_cons (pv 7) pa_nil))))))))))))), ?_⟩
    cases d with
    | zero =>
      cases rows with
      | cons x _ => exact nomatch x
      | nil =>
        cases hp
        refine ⟨_, rfl, r, _, rfl, SqL.of (S0 _ _ hr0), ?_⟩
        refine for_it (walk_enum (K := K) (a := r) (xs := [])) (fun i σ' H' => H' = H) rfl (fun i σ' H' _ q => q ▸ SqL.of (S0 _ _ hr0)) (fun i x σ' H3 H4 hi q y => absurd hi (Nat.not_lt_zero _)) (fun σ' H' q => ?_)
        subst q
        exact kq rfl _ (Kp.refl _) rc
    | succ d =>
      have eT : chk ed ka ks (d + 1) il rows pre st = seqChk (oneChk ed ka ks (chk ed ka ks d) il) pre rows 0 st := rfl
      rw [eT] at kq ke
      have lT : lsz (d + 1) rows = (rows.map (rsz (d + 1))).sum := rfl
      have HC : ∀ {H' : Hp}, Kp (fun b => b = e ∨ b = g) H H' → Same H0 H' := fun k => Kp.base S0 k (by rintro c (rfl | rfl); exact ne; exact ng)
      refine ⟨_, rfl, r, _, rfl, SqL.of (S0 _ _ hr0), ?_⟩
      refine for_it (walk_enum (K := K) (a := r) (xs := xs)) (fun i σ' H' => ∃ (st1 : Sn) (y1 y2 y3 y4 y5 y6 : Option V), σ' = [some (.ref p), some (.ref r), some (.ref t), some (.bl il), y1, y2, y3, y4, y5, y6] ∧ Kp (fun b => b = e ∨ b = g) H H' ∧ RC K H' p ed ka ks st1 a s' e g dx ∧
          seqChk (oneChk ed ka ks (chk ed ka ks d) il) pre (rows.drop i) i st1 = seqChk (oneChk ed ka ks (chk ed ka ks d) il) pre rows 0 st ∧ len2 st1 + ((rows.drop i).map (rsz (d + 1))).sum ≤ 3000)
        ⟨st, _, _, _, _, _, _, rfl, Kp.refl _, rc, rfl, fews⟩ (fun i σ' H' _ q => ?_) (fun i x σ' H3 H4 hi q y => ?_) (fun σ' H' q => ?_)
      · obtain ⟨_, _, _, _, _, _, _, _, kp, _⟩ := q
        exact SqL.of (HC kp _ _ hr0)
      · obtain ⟨st1, y1, y2, y3, y4, y5, y6, rfl, kp, rc1, eq, fw⟩ := q
        obtain ⟨T1, num, rv, rfl, nT, rfl, hnum, hrv⟩ := y
        cases Option.some.inj hnum
        have hrv : xs[i]? = some rv := hrv
        obtain ⟨row, hrow, hra⟩ := hp.other hrv
        have pr := prr row (List.mem_of_getElem? hrow)
        obtain ⟨hf, nice, l1000, k1000, prk⟩ := id pr
        have eq := (seq_drop (f := oneChk ed ka ks (chk ed ka ks d) il) (pre := pre) (st := st1) hrow).symm.trans eq
        rw [sum_drop _ hrow] at fw
        have er : rsz (d + 1) row = 1 + ((kids row.2).map (lsz d)).sum := rfl
        have S4 : Same H3 (upd H3 T1 (.tup [.int (i : Nat), rv])) := Same.new nT
        refine ⟨T1, _, rfl, SqT.of upd_same, rfl, _, _, rfl, _, _, rfl, rfl, ?_⟩
        have kp4 : Kp (fun b => b = e ∨ b = g) H (upd H3 T1 (.tup [.int (i : Nat), rv])) := kp.trans (Kp.of S4)
        have rc4 := rc1.same S4
        generalize upd H3 T1 (.tup [.int (i : Nat), rv]) = H5 at kp4 rc4 ⊢
        have tH : ∀ {H' : Hp}, Kp (fun b => b = e ∨ b = g) H H' → SqT K H' t (pre.map V.int) := fun k => by
          rcases ht with (q | ⟨o, q⟩) | q
          · exact .inl (.inl (k _ _ q (by rintro (z | z); exact te z; exact tg z)))
          · exact .inl (.inr ⟨o, k _ _ q (by rintro (z | z); exact te z; exact tg z)⟩)
          · exact .inr q
        -- the path
        refine ⟨_, rfl, _, rfl, by show 1 ≤ sizeLine; decide, fun t1 n1 => ?_⟩
        have S5 : Same H5 (upd H5 t1 (.tup [.int (i : Nat)])) := Same.new n1
        have h1 : upd H5 t1 (.tup [.int (i : Nat)]) t1 = some (.tup [.int (i : Nat)]) := upd_same
        generalize upd H5 t1 (.tup [.int (i : Nat)]) = H6 at S5 h1 ⊢
        refine cat_path (tH (kp4.trans (Kp.of S5))) h1 (by rw [List.length_map]; omega) (fun H7 tp S7 htp hnew => ?_)
        have ep : pre.map V.int ++ [V.int (i : Nat)] = (pre ++ [(i : Int)]).map V.int := by simp
        rw [ep] at htp hnew
        have kp7 := (kp4.trans (Kp.of S5)).trans (Kp.of (C := fun b => b = e ∨ b = g) S7)
        have rc7 := (rc4.same S5).same S7
        have S07 := HC kp7
        have tpe : tp ≠ e := ne_of hnew.1 rc7.he (by intro z; cases z)
        have tpg : tp ≠ g := ne_of hnew.1 rc7.hg (by intro z; cases z)
        generalize epth : pre ++ [(i : Int)] = path at htp hnew eq
        have lpath : path.length + 2 * (d + 1) ≤ 91 := by rw [← epth, List.length_append]; simp; omega
        generalize eOut : seqChk (oneChk ed ka ks (chk ed ka ks d) il) pre rows 0 st = OUT at kq ke eq
        -- the form
        refine ⟨_, rfl, p, dx, _, rfl, rc7.ob, rfl, _, rfl, ?_⟩
        refine ⟨p, rv, d, H0, row, fsOf row.1, ed, ka, ks, st1, a, s', e, g, dx, rfl, rc7, hra, S07, hf, nice, l1000, fun H8 S8 => ?_⟩
        have kp8 := kp7.trans (Kp.of (C := fun b => b = e ∨ b = g) S8)
        have rc8 := rc7.same S8
        refine ⟨_, rfl, ?_⟩
        cases c1 : hasForm ed ka ks row.1 (fsOf row.1) row.2 with
        | false =>
          refine iteT ?_
          have e1 : oneChk ed ka ks (chk ed ka ks d) il row path st1 = (some path, st1) := by unfold oneChk; rw [c1]; rfl
          rw [e1] at eq
          exact ⟨_, rfl, rfl, refused kp8 rc8 (sameT S8 htp) (ke path (by rw [← eq]))⟩
        | true =>
        have hk := hasForm_kinds c1
        refine iteF ?_
        refine ⟨_, rfl, _, rfl, _, rfl, ?_⟩
        refine ⟨rv, tp, il, H0, d, row, fsOf row.1, path.map V.int, rfl, sameT S8 htp, by rw [List.length_map]; omega, hra, S07.trans S8, hf, hk, k1000, fun H9 S9 => ?_⟩
        have kp9 := kp8.trans (Kp.of (C := fun b => b = e ∨ b = g) S9)
        have rc9 := rc8.same S9
        refine ⟨_, rfl, ?_⟩
        rw [List.length_map]
        cases c2 : mayS row.1 path.length il (kids row.2).length with
        | false =>
          refine iteT ?_
          have e1 : oneChk ed ka ks (chk ed ka ks d) il row path st1 = (some path, st1) := by unfold oneChk; rw [c1, c2]; rfl
          rw [e1] at eq
          exact ⟨_, rfl, rfl, refused kp9 rc9 (sameT (S8.trans S9) htp) (ke path (by rw [← eq]))⟩
        | true =>
        refine iteF ?_
        refine ⟨_, rfl, p, dx, _, rfl, rc9.ob, rfl, _, rfl, ?_⟩
        have l2 : len2 st1 ≤ 3000 := by omega
        refine ⟨p, rv, d, H0, row, fsOf row.1, ed, ka, ks, st1, a, s', e, g, dx, rfl, rc9, hra, S07.trans (S8.trans S9), ne, ng, hf, hk, by unfold len2 at l2; omega, by unfold len2 at l2; omega, fun H10 k10 rc10 => ?_⟩
        have kp10 := kp9.trans k10
        have htp10 : SqT K H10 tp (path.map V.int) := SqT.of (k10 _ _ (S9 _ _ (S8 _ _ hnew.1)) (by rintro (z | z); exact tpe z; exact tpg z))
        have hnew10 : H10 tp = some (.tup (path.map V.int)) := k10 _ _ (S9 _ _ (S8 _ _ hnew.1)) (by rintro (z | z); exact tpe z; exact tpg z)
        refine ⟨_, rfl, ?_⟩
        have nl := isNew_len (fsOf row.1) row.2 st1
        cases c3 : (isNew (fsOf row.1) row.2 st1).1 with
        | false =>
          refine iteT ?_
          have e1 : oneChk ed ka ks (chk ed ka ks d) il row path st1 = (some path, (isNew (fsOf row.1) row.2 st1).2) := by unfold oneChk; rw [c1, c2, c3]; rfl
          rw [e1] at eq
          exact ⟨_, rfl, rfl, refused kp10 rc10 htp10 (ke path (by rw [← eq]))⟩
        | true =>
        refine iteF ?_
        have e1 : oneChk ed ka ks (chk ed ka ks d) il row path st1 = seqChk (chk ed ka ks d (innerLoop row.1 il)) path (kids row.2) 0 (isNew (fsOf row.1) row.2 st1).2 := by unfold oneChk; rw [c1, c2, c3]; rfl
        generalize (isNew (fsOf row.1) row.2 st1).2 = st2 at rc10 e1 nl
        have S010 := HC kp10
        obtain ⟨b, bs, rfl, hb, hpb⟩ := id hra
        have hb10 := sameT S010 hb
        refine ⟨_, rfl, b, _, _, .str row.1, rfl, rfl, hb10, at0, rfl, _, rfl, ?_⟩
        have three : (row.1 = "loop") ∨ (row.1 ≠ "loop" ∧ il = true) ∨ (row.1 ≠ "loop" ∧ il = false) := by
          by_cases c : row.1 = "loop"
          · exact .inl c
          · cases il
            · exact .inr (.inr ⟨c, rfl⟩)
            · exact .inr (.inl ⟨c, rfl⟩)
        rcases three with c4 | ⟨c4, hil⟩ | ⟨c4, hil⟩
        (refine iteT' (decide_eq_true (by rw [c4])) ?_
         rw [show V.bl true = V.bl (innerLoop row.1 il) from by unfold innerLoop; simp [c4]])
        rotate_left
        (refine iteF' (decide_eq_false fun z => c4 (by injection z)) ?_
         refine ⟨_, rfl, _, rfl, ?_⟩
         refine iteT' hil ?_
         refine ⟨_, rfl, b, _, _, .str row.1, rfl, rfl, hb10, at0, rfl, ?_⟩
         rw [show V.bl (!decide (V.str row.1 = V.str "both")) = V.bl (innerLoop row.1 il) from by
           have z : decide (V.str row.1 = V.str "both") = decide (row.1 = "both") := by simp
           unfold innerLoop
           rw [z]
           simp [c4, hil]])
        rotate_left
        (refine iteF' (decide_eq_false fun z => c4 (by injection z)) ?_
         refine ⟨_, rfl, _, rfl, ?_⟩
         refine iteF' hil ?_
         rw [show V.bl false = V.bl (innerLoop row.1 il) from by unfold innerLoop; simp [c4, hil]])
        rotate_left
        all_goals
          refine ⟨_, rfl, _, H0, d, row, fsOf row.1, rfl, hra, S010, hf, hk, k1000, fun H11 L ls S11 nL hL hls => ?_⟩
          have kp11 := kp10.trans (Kp.of (C := fun b => b = e ∨ b = g) S11)
          have rc11 := rc10.same S11
          have LC : ¬ (L = e ∨ L = g) := by
            rintro (z | z)
            · rw [z, rc10.he] at nL; cases nL
            · rw [z, rc10.hg] at nL; cases nL
          refine ⟨L, _, rfl, SqL.of hL, ?_⟩
          refine for_it (walk_enum (K := K) (a := L) (xs := ls)) (fun j σ' H' => ∃ (st3 : Sn) (y8 y9 : Option V), σ' = [some (.ref p), some (.ref r), some (.ref t), some (.bl il), some (.int (i : Nat)), some (.ref b), some (.ref tp), some (.bl (innerLoop row.1 il)), y8, y9] ∧ Kp (fun b => b = e ∨ b = g) H11 H' ∧ RC K H' p ed ka ks st3 a s' e g dx ∧
              seqChk (chk ed ka ks d (innerLoop row.1 il)) path ((kids row.2).drop j) j st3 = oneChk ed ka ks (chk ed ka ks d) il row path st1 ∧ len2 st3 + (((kids row.2).drop j).map (lsz d)).sum + ((rows.drop (i + 1)).map (rsz (d + 1))).sum ≤ 3000)
            ⟨st2, _, _, rfl, Kp.refl _, rc11, e1.symm, by rw [List.drop_zero]; omega⟩ (fun j σ' H' _ q => ?_) (fun j x σ' H12 H13 hj q y => ?_) (fun σ' H' q => ?_)
          · obtain ⟨_, _, _, _, kp, _⟩ := q
            exact SqL.of (kp _ _ hL LC)
          · obtain ⟨st3, y8, y9, rfl, kp12, rc12, eq3, fw3⟩ := q
            obtain ⟨T2, num2, lv, rfl, nT2, rfl, hnum2, hlv⟩ := y
            cases Option.some.inj hnum2
            have hlv : ls[j]? = some lv := hlv
            obtain ⟨l, hl, c, cs, rfl, hc, hcs⟩ := hls.other hlv
            have eq3 := (seq_drop (f := chk ed ka ks d (innerLoop row.1 il)) (pre := path) (st := st3) hl).symm.trans eq3
            rw [sum_drop _ hl] at fw3
            obtain ⟨l1, l3⟩ := prk l (List.mem_of_getElem? hl)
            have S12 : Same H12 (upd H12 T2 (.tup [.int (j : Nat), .ref c])) := Same.new nT2
            refine ⟨T2, _, rfl, SqT.of upd_same, rfl, _, _, rfl, _, _, rfl, rfl, ?_⟩
            have kp13 := (kp11.trans kp12).trans (Kp.of (C := fun b => b = e ∨ b = g) S12)
            have rc13 := rc12.same S12
            have tp13 : upd H12 T2 (.tup [.int (j : Nat), .ref c]) tp = some (.tup (path.map V.int)) := S12 _ _ (kp12 _ _ (S11 _ _ hnew10) (by rintro (z | z); exact tpe z; exact tpg z))
            have k1113 := kp12.trans (Kp.of (C := fun b => b = e ∨ b = g) S12)
            generalize upd H12 T2 (.tup [.int (j : Nat), .ref c]) = H14 at kp13 rc13 tp13 k1113 ⊢
            refine ⟨_, rfl, p, dx, _, rfl, rc13.ob, rfl, _, rfl, _, rfl, _, rfl, by show 1 ≤ sizeLine; decide, fun t3 n3 => ?_⟩
            have S15 : Same H14 (upd H14 t3 (.tup [.int (j : Nat)])) := Same.new n3
            have h3 : upd H14 t3 (.tup [.int (j : Nat)]) t3 = some (.tup [.int (j : Nat)]) := upd_same
            generalize upd H14 t3 (.tup [.int (j : Nat)]) = H15 at S15 h3 ⊢
            refine cat_path (SqT.of (S15 _ _ tp13)) h3 (by rw [List.length_map]; omega) (fun H16 tq S16 htq hnew16 => ?_)
            have eq2 : path.map V.int ++ [V.int (j : Nat)] = (path ++ [(j : Int)]).map V.int := by simp
            rw [eq2] at htq hnew16
            have kp16 := (kp13.trans (Kp.of (C := fun b => b = e ∨ b = g) S15)).trans (Kp.of (C := fun b => b = e ∨ b = g) S16)
            have rc16 := (rc13.same S15).same S16
            have tqe : tq ≠ e := ne_of hnew16.1 rc16.he (by intro z; cases z)
            have tqg : tq ≠ g := ne_of hnew16.1 rc16.hg (by intro z; cases z)
            refine ⟨_, rfl, ?_⟩
            refine ⟨p, c, tq, _, H0, l, cs, path ++ [(j : Int)], ed, ka, ks, st3, a, s', e, g, dx, rfl, rc16, hc, HC kp16, ne, ng, hcs, l3, htq, by rw [List.length_append, List.length_singleton]; omega, by omega, tqe, tqg, fun hn H17 k17 rc17 => ?_, fun path' hp' => ?_⟩
            · have cl := chk_len ed ka ks d (innerLoop row.1 il) l (path ++ [(j : Int)]) st3
              generalize chk ed ka ks d (innerLoop row.1 il) l (path ++ [(j : Int)]) st3 = RES at hn rc17 eq3 cl
              obtain ⟨o, st4⟩ := RES
              simp only at hn rc17 cl
              subst hn
              exact ⟨st4, _, _, rfl, (k1113.trans ((Kp.of S15).trans (Kp.of S16))).trans k17, rc17, eq3, by omega⟩
            · generalize chk ed ka ks d (innerLoop row.1 il) l (path ++ [(j : Int)]) st3 = RES at hp' eq3
              obtain ⟨o, st4⟩ := RES
              simp only at hp'
              subst hp'
              rw [← eq3] at eq
              intro dd t' H' kk nd hd htt
              exact ke path' (by rw [← eq]) dd t' H' (kp16.trans kk) (RC.free kp16 rc16 nd) hd htt
          · obtain ⟨st3, y8, y9, rfl, kp12, rc12, eq3, fw3⟩ := q
            have z : (kids row.2).drop ls.length = [] := List.drop_of_length_le (by rw [hls.len]; exact Nat.le_refl _)
            rw [z] at eq3 fw3
            have eq3 : (none, st3) = _ := eq3
            rw [← eq3] at eq
            exact ⟨st3, _, _, _, _, _, _, rfl, kp11.trans kp12, rc12, eq, by rw [List.map_nil, List.sum_nil] at fw3; omega⟩
      · obtain ⟨st1, y1, y2, y3, y4, y5, y6, rfl, kp, rc1, eq, fw⟩ := q
        have z : rows.drop xs.length = [] := List.drop_of_length_le (by rw [hp.len]; exact Nat.le_refl _)
        rw [show (List.drop (α := Str × List (Pt (Row d))) xs.length rows) = [] from z] at eq
        have e1 : seqChk (oneChk ed ka ks (chk ed ka ks d) il) pre rows 0 st = (none, st1) := eq.symm
        rw [e1] at kq
        exact kq rfl H' kp rc1
end
end OR

set_option Elab.async false
set_option maxRecDepth 100000
set_option maxHeartbeats 4000000
set_option linter.all false
namespace OR
open PySem PySem.Spec PyProof.Rows L2 TS2
def spRCinit (K : PySem.W.Frag) : Sp := fun vs H Q _ => ∃ (p dx a s : Addr) (b : Bool), vs = [.ref p, .ref a, .ref s, .bl b] ∧ H p = some (.ins (He.ga K "RowCheck") dx []) ∧
  ∀ (H' : Hp) (e g : Addr), Kp (· = p) H H' → H' p = some (.ins (He.ga K "RowCheck") dx (rcF a s b e g)) → H' e = some (.dK []) → H' g = some (.dK []) → e ≠ g → H e = none → H g = none → Q .non H'
def spCheckRows (K : PySem.W.Frag) (d : Nat) : Sp := fun vs H Q E => ∃ (p : Addr) (v : V) (ed : Bool) (ka ks : List (Key × V)) (st : Sn) (a s e g dx : Addr), vs = [.ref p, v] ∧ RC K H p ed ka ks st a s e g dx ∧
  ((NotA K H v "list" ∧ Refuses K (fun b => b = e ∨ b = g) H "rows" [] E) ∨ ∃ (r : Addr) (H0 : Hp) (rows : List (Row d)) (xs : List V), v = .ref r ∧ H0 r = some (.lst xs) ∧ Same H0 H ∧ H0 e = none ∧ H0 g = none ∧ All2 (RowAt K H0 d) rows xs ∧ (∀ r ∈ rows, Pre d r) ∧ d ≤ 40 ∧ len2 st + lsz d rows ≤ 3000 ∧
    ((chk ed ka ks d false rows [] st).1 = none → ∀ H', Kp (fun b => b = e ∨ b = g) H H' → RC K H' p ed ka ks (chk ed ka ks d false rows [] st).2 a s e g dx → Q .non H') ∧
    (∀ path, (chk ed ka ks d false rows [] st).1 = some path → Refuses K (fun b => b = e ∨ b = g) H "rows" path E))
section
variable {P : Program} {w : World} {K : PySem.W.Frag} {mg : Str → Option Value} {base : Heap}
theorem ok_RCinit {f : Addr} {fd : FuncData} (F : FnP K "__init__" "RowCheck.__init__" s_RowCheck___init__ f fd) (T : Tx w K mg) : FnOk P w K mg base CX0 1 f fd p_RowCheck___init__ (spRCinit K) := by
  refine F.ok sc_RowCheck___init__ (fun vs H Q E h => ?_) (fun cdv A outer s H vs Q E hr h => ?_)
  · obtain ⟨p, dx, v, w, b, rfl, _⟩ := h
    rfl
  · obtain ⟨p, dx, a, s', b, rfl, hp, k⟩ := h
    refine ⟨_, PSs.nox (pss_cons (ps_fld (pv 0) (pv 1) rfl)
      (pss_cons (ps_fld (pv 0) (pv 2) rfl)
      (pss_cons (ps_fld (pv 0) (pv 3) rfl)
      (pss_cons (ps_fld (pv 0) pe_dnewK rfl)
      (pss_one (ps_fld (pv 0) pe_dnewK rfl)))))), ?_⟩
    refine ⟨_, rfl, _, rfl, p, _, dx, [], rfl, hp, T.c_RowCheck, T.n_RowCheck_ask_table, (by show 0 < 1000; decide), ?_⟩
    refine ⟨_, rfl, _, rfl, p, _, dx, _, rfl, upd_same, T.c_RowCheck, T.n_RowCheck_signal_table, (by show 1 < 1000; decide), ?_⟩
    refine ⟨_, rfl, _, rfl, p, _, dx, _, rfl, upd_same, T.c_RowCheck, T.n_RowCheck_with_edits, (by show 2 < 1000; decide), ?_⟩
    intro e nd
    have npd : p ≠ e := fun z => by rw [← z, upd_same] at nd; cases nd
    refine ⟨_, rfl, p, _, dx, _, rfl, (by rw [upd_ne npd]; exact upd_same), T.c_RowCheck, T.n_RowCheck_seen_edits, (by show 3 < 1000; decide), ?_⟩
    intro g nd2
    have npd2 : p ≠ g := fun z => by rw [← z, upd_same] at nd2; cases nd2
    have eg : e ≠ g := fun z => by rw [← z, upd_ne npd.symm, upd_same] at nd2; cases nd2
    have ne : H e = none := by rw [upd_ne npd.symm, upd_ne npd.symm, upd_ne npd.symm] at nd; exact nd
    have ng : H g = none := by
      rw [upd_ne npd2.symm, upd_ne eg.symm, upd_ne npd2.symm, upd_ne npd2.symm, upd_ne npd2.symm] at nd2
      exact nd2
    refine ⟨_, rfl, p, _, dx, _, rfl, (by rw [upd_ne npd2]; exact upd_same), T.c_RowCheck, T.n_RowCheck_seen_gates, (by show 4 < 1000; decide), ?_⟩
    refine k _ e g (fun b o hb nb => ?_) upd_same (by rw [upd_ne npd.symm, upd_ne eg, upd_ne npd.symm, upd_same]) (by rw [upd_ne npd2.symm, upd_same]) eg ne ng
    rw [upd_ne nb, upd_ne (ne_of_none hb ng), upd_ne nb, upd_ne (ne_of_none hb ne), upd_ne nb, upd_ne nb, upd_ne nb]
    exact hb
theorem ok_check_rows {k0 d : Nat} {f : Addr} {fd : FuncData} (F : FnP K "check_rows" "RowCheck.check_rows" s_RowCheck_check_rows f fd) (T : Tx w K mg) (h1 : 2 ≤ k0) (E_InvalidProgram : ErrDef P w K mg base CX0 1 "InvalidProgram" (cIP K) ["self", "part", "path"] ["part", "path"])
    (M_check_list : MDef P w K mg base (L2.CX P w) k0 (He.ga K "RowCheck") "check_list" p_RowCheck_check_list (spCheck K (d + 1))) : FnOk P w K mg base (L2.CX P w) (k0 + 1) f fd p_RowCheck_check_rows (spCheckRows K d) := by
  refine F.ok sc_RowCheck_check_rows (fun vs H Q E h => ?_) (fun cdv A outer s H vs Q E hr h => ?_)
  · obtain ⟨p, v, _, _, _, _, _, _, _, _, _, rfl, _⟩ := h
    rfl
  · obtain ⟨p, v, ed, ka, ks, st, a, s', e, g, dx, rfl, rc, h⟩ := h
    refine ⟨_, (pss_cons (ps_if (pt_not (pt_val (pe_callB call_isi (by rfl) T.b_isinstance (by decide +kernel) (pa_cons (pv 1) (pa_cons (pe_bltn (v := .ty "list") (u := .type "list") (by rfl) T.b_list (by decide +kernel) rfl) pa_nil))))) (pss_one (ps_raise rfl (takes_of rfl rfl rfl rfl) (pmk_errL E_InvalidProgram (hr.mono (by omega)) (by rfl) pass0 (pa_cons pe_str (pa_cons (pe_tup pa_nil) pa_nil))))) pss_nil)
      (pss_one (ps_expr (pe_mth M_check_list (hr.mono (by omega)) (passes_call (W := fun c d _ H => E c d H) (takes_of rfl rfl rfl rfl) (fun _ _ _ _ h => h)) (pv 0) (pa_cons (pv 1) (pa_cons (pe_tup pa_nil) (pa_cons pe_bl pa_nil))))))), ?_⟩
    rcases h with ⟨⟨ty, n1, n2⟩, ke⟩ | ⟨r, H0, rows, xs, rfl, hr0, S0, ne, ng, hp, prr, fd, few, kq, ke⟩
    · refine ⟨_, rfl, v, .ty "list", _, _, false, rfl, .ty _, n1, n2, _, rfl, ?_⟩
      refine iteT ?_
      refine ⟨by show 0 ≤ sizeLine; decide, fun t nt => ?_⟩
      exact ⟨rfl, refused (path := []) (Kp.of (Same.new nt)) (rc.same (Same.new nt)) (SqT.of upd_same) ke⟩
    · refine ⟨_, rfl, .ref r, .ty "list", _, _, true, rfl, .ty _, tyL (SqL.of (S0 _ _ hr0)), kit_ty (by decide +kernel), _, rfl, ?_⟩
      refine iteF ?_
      refine ⟨_, rfl, p, dx, _, rfl, rc.ob, rfl, _, rfl, by show 0 ≤ sizeLine; decide, fun t nt => ?_⟩
      have S1 : Same H (upd H t (.tup [])) := Same.new nt
      have ht : upd H t (.tup []) t = some (.tup []) := upd_same
      generalize upd H t (.tup []) = H1 at S1 ht ⊢
      have rc1 := rc.same S1
      have hd90 : ([] : List Int).length + 2 * d ≤ 90 := by
        show 0 + 2 * d ≤ 90
        omega
      refine ⟨p, r, t, false, H0, rows, xs, [], ed, ka, ks, st, a, s', e, g, dx, rfl, rc1, hr0, S0.trans S1, ne, ng, hp, prr, SqT.of ht, hd90, few, ne_of ht rc1.he (by intro z; cases z), ne_of ht rc1.hg (by intro z; cases z), fun hn H' k' rc' => kq hn H' ((Kp.of S1).trans k') rc', fun path hp' dd t' H' kk nd hd htt => ke path hp' dd t' H' ((Kp.of S1).trans kk) (S1.free nd) hd htt⟩
end
end OR

set_option Elab.async false
set_option maxRecDepth 100000
set_option maxHeartbeats 4000000
set_option linter.all false
namespace OR
open PySem PySem.Spec PyProof.Rows L2 TS2
/-- a row of any depth -/
abbrev AnyRow : Type := Σ e : Nat, Row (e + 1)
def flatR : (d : Nat) → Row d → List AnyRow
  | 0, r => nomatch r
  | d + 1, r => ⟨d, r⟩ :: ((kids r.2).map fun l => (l.map (flatR d)).flatten).flatten
def flatL (d : Nat) (rows : List (Row d)) : List AnyRow := (rows.map (flatR d)).flatten
theorem flat_len : ∀ (d : Nat) (r : Row d), (flatR d r).length = rsz d r
  | 0, r => nomatch r
  | d + 1, r => by
    have ih : ∀ l : List (Row d), ((l.map (flatR d)).flatten).length = lsz d l := fun l => by
      unfold lsz
      rw [List.length_flatten, List.map_map]
      congr 1
      refine List.map_congr_left fun x _ => ?_
      exact flat_len d x
    show (((kids r.2).map fun l => (l.map (flatR d)).flatten).flatten).length + 1 = 1 + ((kids r.2).map fun l => (l.map (rsz d)).sum).sum
    rw [List.length_flatten, List.map_map, Nat.add_comm]
    congr 2
    refine List.map_congr_left fun l _ => ?_
    exact ih l
theorem flatL_len (d : Nat) (l : List (Row d)) : (flatL d l).length = lsz d l := by
  unfold flatL lsz
  rw [List.length_flatten, List.map_map]
  congr 1
  refine List.map_congr_left fun x _ => ?_
  exact flat_len d x
/-! ### the plan of rows -/
structure PM where
  fl : List AnyRow
  pl : List (List Int)
  bh : List Int
  en : List (List Int)
  sd : List (List Int)
  st : List Int
def PM.row (P : PM) (x : AnyRow) (path : List Int) (b : Int) : PM := ⟨P.fl ++ [x], P.pl ++ [path], P.bh ++ [b], P.en ++ [[]], P.sd ++ [[]], P.st⟩
def PM.entry (P : PM) (h : Nat) (x : Int) : PM := { P with en := P.en.set h (P.en.getD h [] ++ [x]) }
def PM.side (P : PM) (h : Nat) (x : Int) : PM := { P with sd := P.sd.set h (P.sd.getD h [] ++ [(P.st.length : Int)]), st := P.st ++ [x] }
def endOf (w : Str) (here b : Int) : Int := if w = "loop" then here else if w = "both" then -1 else b
/-- a list of a row is begun -/
def PM.first (P : PM) (w : Str) (here : Nat) (x : Int) : PM := if w = "both" then (P.entry here x).side here x else P.entry here x
def firstAt {R : Type} (l : List R) (e : Int) (P : PM) : Int := if l.length = 0 then e else P.fl.length
/-- the lists of a row, one after another -/
def layK {R : Type} (f : List R → List Int → Int → Int → PM → PM) (w : Str) (here : Nat) (path : List Int) (b ex : Int) : List (List R) → Nat → PM → PM
  | [], _, P => P
  | l :: ls, j, P => layK f w here path b ex ls (j + 1) (f l (path ++ [(j : Int)]) (endOf w here b) (if w = "loop" then b else ex) (P.first w here (firstAt l (endOf w here b) P)))
/-- the rows of a list, one after another -/
def layS {R : Type} (g : R → List Int → Int → Int → PM → PM) (sz : R → Nat) (n : Nat) (pre : List Int) (e ex : Int) : List R → Nat → PM → PM
  | [], _, P => P
  | r :: rs, i, P => layS g sz n pre e ex rs (i + 1) (g r (pre ++ [(i : Int)]) (if i + 1 < n then ((P.fl.length + sz r : Nat) : Int) else e) ex P)
def layR : (d : Nat) → Row d → List Int → Int → Int → PM → PM
  | 0, r, _, _, _, _ => nomatch r
  | d + 1, r, path, b, ex, P => layK (fun l pre e x P => layS (layR d) (rsz d) l.length pre e x l 0 P) r.1 P.fl.length path b ex (kids r.2) 0 (P.row ⟨d, r⟩ path (if r.1 = "leave" then ex else b))
def layL (d : Nat) (rows : List (Row d)) (pre : List Int) (e ex : Int) (P : PM) : PM := layS (layR d) (rsz d) rows.length pre e ex rows 0 P
structure PM.Ok (P : PM) : Prop where
  p : P.pl.length = P.fl.length
  b : P.bh.length = P.fl.length
  e : P.en.length = P.fl.length
  s : P.sd.length = P.fl.length
theorem PM.Ok.row {P : PM} (h : P.Ok) (x : AnyRow) (path : List Int) (b : Int) : (P.row x path b).Ok := ⟨by simp [PM.row, h.p], by simp [PM.row, h.b], by simp [PM.row, h.e], by simp [PM.row, h.s]⟩
theorem PM.Ok.entry {P : PM} (h : P.Ok) (k : Nat) (x : Int) : (P.entry k x).Ok := ⟨h.p, h.b, by simp [PM.entry, h.e], h.s⟩
theorem PM.Ok.side {P : PM} (h : P.Ok) (k : Nat) (x : Int) : (P.side k x).Ok := ⟨h.p, h.b, h.e, by simp [PM.side, h.s]⟩
theorem PM.Ok.first {P : PM} (h : P.Ok) (w : Str) (here : Nat) (x : Int) : (P.first w here x).Ok ∧ (P.first w here x).fl = P.fl ∧ P.st.length ≤ (P.first w here x).st.length ∧ (P.first w here x).st.length ≤ P.st.length + 1 := by
  unfold PM.first
  split
  · exact ⟨(h.entry _ _).side _ _, rfl, by simp [PM.side, PM.entry], by simp [PM.side, PM.entry]⟩
  · exact ⟨h.entry _ _, rfl, Nat.le_refl _, by simp [PM.entry]⟩
/-- how far a plan grew: n rows at most k starts each -/
structure Grew (P P' : PM) (fl : List AnyRow) (t : Nat) : Prop where
  ok : P'.Ok
  f : P'.fl = P.fl ++ fl
  t1 : P.st.length ≤ P'.st.length
  t2 : P'.st.length ≤ P.st.length + t
theorem Grew.mono {P P' : PM} {fl : List AnyRow} {t t' : Nat} (g : Grew P P' fl t) (h : t ≤ t') : Grew P P' fl t' := ⟨g.ok, g.f, g.t1, Nat.le_trans g.t2 (by omega)⟩
theorem grew_layK {R : Type} {f : List R → List Int → Int → Int → PM → PM} {w : Str} {here : Nat} {path : List Int} {b ex : Int} {fl : List R → List AnyRow} {t : List R → Nat} : ∀ (ls : List (List R)) (j : Nat) (P : PM), P.Ok → (∀ l ∈ ls, ∀ pre e x P, P.Ok → Grew P (f l pre e x P) (fl l) (t l)) →
    Grew P (layK f w here path b ex ls j P) (ls.map fl).flatten (ls.length + (ls.map t).sum)
  | [], j, P, h, _ => ⟨h, by simp [layK], Nat.le_refl _, by simp [layK]⟩
  | l :: ls, j, P, h, k => by
    unfold layK
    have h2 := h.first w here (firstAt l (endOf w here b) P)
    generalize P.first w here (firstAt l (endOf w here b) P) = P2 at h2 ⊢
    have g1 := k l List.mem_cons_self (path ++ [(j : Int)]) (endOf w here b) (if w = "loop" then b else ex) P2 h2.1
    have g2 := grew_layK (f := f) (w := w) (here := here) (path := path) (b := b) (ex := ex) ls (j + 1) _ g1.ok fun l' hl' => k l' (List.mem_cons_of_mem _ hl')
    refine ⟨g2.ok, ?_, ?_, ?_⟩
    · rw [g2.f, g1.f, h2.2.1]
      simp
    · have := g1.t1; have := g2.t1; omega
    · have := g1.t2; have := g2.t2
      simp only [List.length_cons, List.map_cons, List.sum_cons]
      omega
theorem grew_layS {R : Type} {g : R → List Int → Int → Int → PM → PM} {sz : R → Nat} {n : Nat} {pre : List Int} {e ex : Int} {fl : R → List AnyRow} {t : R → Nat} : ∀ (rs : List R) (i : Nat) (P : PM), P.Ok → (∀ r ∈ rs, ∀ path b x P, P.Ok → Grew P (g r path b x P) (fl r) (t r)) →
    Grew P (layS g sz n pre e ex rs i P) (rs.map fl).flatten (rs.map t).sum
  | [], i, P, h, _ => ⟨h, by simp [layS], Nat.le_refl _, by simp [layS]⟩
  | r :: rs, i, P, h, k => by
    unfold layS
    have g1 := k r List.mem_cons_self (pre ++ [(i : Int)]) (if i + 1 < n then ((P.fl.length + sz r : Nat) : Int) else e) ex P h
    have g2 := grew_layS (g := g) (sz := sz) (n := n) (pre := pre) (e := e) (ex := ex) rs (i + 1) _ g1.ok fun l' hl' => k l' (List.mem_cons_of_mem _ hl')
    refine ⟨g2.ok, ?_, ?_, ?_⟩
    · rw [g2.f, g1.f]
      simp
    · have := g1.t1; have := g2.t1; omega
    · have := g1.t2; have := g2.t2
      simp only [List.map_cons, List.sum_cons]
      omega
theorem sum_le_mul {α : Type} (c : Nat) (f : α → Nat) : ∀ l : List α, (l.map fun x => c * f x).sum = c * (l.map f).sum
  | [] => by simp
  | x :: l => by rw [List.map_cons, List.sum_cons, sum_le_mul c f l, List.map_cons, List.sum_cons, Nat.mul_add]
theorem grew_layR : ∀ (d : Nat) (r : Row d), Shape d r → ∀ path b ex P, P.Ok → Grew P (layR d r path b ex P) (flatR d r) (1000 * rsz d r)
  | 0, r, _, _, _, _, _, _ => nomatch r
  | d + 1, r, sh, path, b, ex, P, h => by
    obtain ⟨_, _, k1000, sk⟩ := id sh
    have h1 := h.row ⟨d, r⟩ path (if r.1 = "leave" then ex else b)
    have g := grew_layK (f := fun l pre e x P => layS (layR d) (rsz d) l.length pre e x l 0 P) (w := r.1) (here := P.fl.length) (path := path) (b := b) (ex := ex) (fl := flatL d) (t := fun l => 1000 * lsz d l) (kids r.2) 0 _ h1 fun l hl pre e x P hP => by
      have g0 := grew_layS (g := layR d) (sz := rsz d) (n := l.length) (pre := pre) (e := e) (ex := x) (fl := flatR d) (t := fun r => 1000 * rsz d r) l 0 P hP fun r' hr' path b x P hP => grew_layR d r' ((sk l hl).2 r' hr') path b x P hP
      rw [sum_le_mul] at g0
      exact g0
    rw [sum_le_mul] at g
    have e : rsz (d + 1) r = 1 + ((kids r.2).map (lsz d)).sum := rfl
    refine ⟨g.ok, ?_, g.t1, ?_⟩
    · have := g.f
      show (layK _ r.1 P.fl.length path b ex (kids r.2) 0 _).fl = _
      rw [this]
      show (P.fl ++ [⟨d, r⟩]) ++ _ = P.fl ++ (⟨d, r⟩ :: _)
      rw [List.append_assoc]
      rfl
    · have := g.t2
      have e3 : (P.row ⟨d, r⟩ path (if r.1 = "leave" then ex else b)).st.length = P.st.length := rfl
      rw [e3] at this
      rw [e]
      show (layK _ r.1 P.fl.length path b ex (kids r.2) 0 _).st.length ≤ _
      omega
theorem grew_layL (d : Nat) (rows : List (Row d)) (sh : ∀ r ∈ rows, Shape d r) (pre : List Int) (e ex : Int) (P : PM) (h : P.Ok) : Grew P (layL d rows pre e ex P) (flatL d rows) (1000 * lsz d rows) := by
  have g0 := grew_layS (g := layR d) (sz := rsz d) (n := rows.length) (pre := pre) (e := e) (ex := ex) (fl := flatR d) (t := fun r => 1000 * rsz d r) rows 0 P h fun r' hr' path b x P hP => grew_layR d r' (sh r' hr') path b x P hP
  rw [sum_le_mul] at g0
  exact g0
/-- the cells ahead of n stand -/
def Keeps (n : Nat) (P P' : PM) : Prop := ∀ h, h < n → P'.en.getD h [] = P.en.getD h [] ∧ P'.sd.getD h [] = P.sd.getD h []
theorem Keeps.trans {n : Nat} {P P1 P2 : PM} (a : Keeps n P P1) (b : Keeps n P1 P2) : Keeps n P P2 := fun h hn => ⟨(b h hn).1.trans (a h hn).1, (b h hn).2.trans (a h hn).2⟩
theorem getD_set_ne {α : Type} {l : List α} {i j : Nat} {x d : α} (h : i ≠ j) : (l.set i x).getD j d = l.getD j d := by
  rw [List.getD_eq_getElem?_getD, List.getD_eq_getElem?_getD, List.getElem?_set_ne h]
theorem Keeps.first (P : PM) (w : Str) (here : Nat) (x : Int) : Keeps here P (P.first w here x) := fun h hn => by
  unfold PM.first
  split
  · exact ⟨getD_set_ne (Nat.ne_of_gt hn), getD_set_ne (Nat.ne_of_gt hn)⟩
  · exact ⟨getD_set_ne (Nat.ne_of_gt hn), rfl⟩
theorem Keeps.row (P : PM) (ok : P.Ok) (x : AnyRow) (path : List Int) (b : Int) : Keeps P.fl.length P (P.row x path b) := fun h hn => by
  refine ⟨?_, ?_⟩
  · show (P.en ++ [[]]).getD h [] = _
    rw [List.getD_eq_getElem?_getD, List.getD_eq_getElem?_getD, List.getElem?_append_left (by rw [ok.e]; exact hn)]
  · show (P.sd ++ [[]]).getD h [] = _
    rw [List.getD_eq_getElem?_getD, List.getD_eq_getElem?_getD, List.getElem?_append_left (by rw [ok.s]; exact hn)]
theorem keeps_layK {R : Type} {f : List R → List Int → Int → Int → PM → PM} {w : Str} {here : Nat} {path : List Int} {b ex : Int} {fl : List R → List AnyRow} {t : List R → Nat} : ∀ (ls : List (List R)) (j : Nat) (P : PM), P.Ok → here ≤ P.fl.length → (∀ l ∈ ls, ∀ pre e x P, P.Ok → Grew P (f l pre e x P) (fl l) (t l) ∧ Keeps P.fl.length P (f l pre e x P)) →
    Keeps here P (layK f w here path b ex ls j P)
  | [], j, P, h, _, _ => fun _ _ => ⟨rfl, rfl⟩
  | l :: ls, j, P, h, hh, k => by
    unfold layK
    have h2 := h.first w here (firstAt l (endOf w here b) P)
    have k2 := Keeps.first P w here (firstAt l (endOf w here b) P)
    generalize P.first w here (firstAt l (endOf w here b) P) = P2 at h2 k2 ⊢
    obtain ⟨g1, k1⟩ := k l List.mem_cons_self (path ++ [(j : Int)]) (endOf w here b) (if w = "loop" then b else ex) P2 h2.1
    have k3 := keeps_layK (f := f) (w := w) (here := here) (path := path) (b := b) (ex := ex) (fl := fl) (t := t) ls (j + 1) _ g1.ok (by rw [g1.f, List.length_append, h2.2.1]; omega) fun l' hl' => k l' (List.mem_cons_of_mem _ hl')
    refine (k2.trans fun x hx => k1 x (by rw [h2.2.1]; omega)).trans k3
theorem keeps_layS {R : Type} {g : R → List Int → Int → Int → PM → PM} {sz : R → Nat} {n : Nat} {pre : List Int} {e ex : Int} {fl : R → List AnyRow} {t : R → Nat} : ∀ (rs : List R) (i : Nat) (P : PM), P.Ok → (∀ r ∈ rs, ∀ path b x P, P.Ok → Grew P (g r path b x P) (fl r) (t r) ∧ Keeps P.fl.length P (g r path b x P)) →
    Keeps P.fl.length P (layS g sz n pre e ex rs i P)
  | [], i, P, h, _ => fun _ _ => ⟨rfl, rfl⟩
  | r :: rs, i, P, h, k => by
    unfold layS
    obtain ⟨g1, k1⟩ := k r List.mem_cons_self (pre ++ [(i : Int)]) (if i + 1 < n then ((P.fl.length + sz r : Nat) : Int) else e) ex P h
    have k2 := keeps_layS (g := g) (sz := sz) (n := n) (pre := pre) (e := e) (ex := ex) (fl := fl) (t := t) rs (i + 1) _ g1.ok fun l' hl' => k l' (List.mem_cons_of_mem _ hl')
    exact k1.trans fun x hx => k2 x (by rw [g1.f, List.length_append]; omega)
theorem keeps_layR : ∀ (d : Nat) (r : Row d), Shape d r → ∀ path b ex P, P.Ok → Keeps P.fl.length P (layR d r path b ex P)
  | 0, r, _, _, _, _, _, _ => nomatch r
  | d + 1, r, sh, path, b, ex, P, h => by
    obtain ⟨_, _, k1000, sk⟩ := id sh
    have h1 := h.row ⟨d, r⟩ path (if r.1 = "leave" then ex else b)
    refine (Keeps.row P h _ _ _).trans (keeps_layK (f := layL d) (w := r.1) (here := P.fl.length) (path := path) (b := b) (ex := ex) (fl := flatL d) (t := fun l => 1000 * lsz d l) (kids r.2) 0 _ h1 (by show _ ≤ (P.fl ++ [_]).length; simp) fun l hl pre e x P hP => ⟨grew_layL d l (sk l hl).2 pre e x P hP, ?_⟩)
    exact keeps_layS (g := layR d) (sz := rsz d) (n := l.length) (pre := pre) (e := e) (ex := x) (fl := flatR d) (t := fun r => 1000 * rsz d r) l 0 P hP fun r' hr' path b x P hP => ⟨grew_layR d r' ((sk l hl).2 r' hr') path b x P hP, keeps_layR d r' ((sk l hl).2 r' hr') path b x P hP⟩
theorem keeps_layL (d : Nat) (rows : List (Row d)) (sh : ∀ r ∈ rows, Shape d r) (pre : List Int) (e ex : Int) (P : PM) (h : P.Ok) : Keeps P.fl.length P (layL d rows pre e ex P) :=
  keeps_layS (g := layR d) (sz := rsz d) (n := rows.length) (pre := pre) (e := e) (ex := ex) (fl := flatR d) (t := fun r => 1000 * rsz d r) rows 0 P h fun r' hr' path b x P hP => ⟨grew_layR d r' (sh r' hr') path b x P hP, keeps_layR d r' (sh r' hr') path b x P hP⟩
theorem PM.first_len {P : PM} {w : Str} {here : Nat} {x : Int} (he : here < P.en.length) (hs : here < P.sd.length) : ((P.first w here x).en.getD here []).length = (P.en.getD here []).length + 1 ∧ ((P.first w here x).sd.getD here []).length ≤ (P.sd.getD here []).length + 1 := by
  have e1 : ∀ {l : List (List Int)} {y : List Int}, here < l.length → (l.set here y).getD here [] = y := fun h => by
    rw [List.getD_eq_getElem?_getD, List.getElem?_set_self h]
    rfl
  unfold PM.first
  split
  · refine ⟨?_, ?_⟩
    · show ((P.en.set here _).getD here []).length = _
      rw [e1 he]
      simp
    · show ((P.sd.set here _).getD here []).length ≤ _
      rw [e1 hs]
      simp [PM.entry]
  · refine ⟨?_, Nat.le_succ _⟩
    show ((P.en.set here _).getD here []).length = _
    rw [e1 he]
    simp
end OR

set_option Elab.async false
set_option maxRecDepth 100000
set_option maxHeartbeats 4000000
set_option linter.all false
namespace OR
open PySem PySem.Spec PyProof.Rows L2 TS2
def planF (a b c d e f : Addr) : List (Str × V) := [("flat", .ref a), ("places", .ref b), ("behind", .ref c), ("entries", .ref d), ("sides", .ref e), ("starts", .ref f)]
/-- the six lists of a plan -/
abbrev C6 (a1 a2 a3 a4 a5 a6 : Addr) : Addr → Prop := fun b => b = a1 ∨ b = a2 ∨ b = a3 ∨ b = a4 ∨ b = a5 ∨ b = a6
structure PL (K : PySem.W.Frag) (H : Hp) (p dx a1 a2 a3 a4 a5 a6 : Addr) (F Pa B E S T : List V) : Prop where
  ob : H p = some (.ins (He.ga K "Plan") dx (planF a1 a2 a3 a4 a5 a6))
  h1 : H a1 = some (.lst F)
  h2 : H a2 = some (.lst Pa)
  h3 : H a3 = some (.lst B)
  h4 : H a4 = some (.lst E)
  h5 : H a5 = some (.lst S)
  h6 : H a6 = some (.lst T)
  nd : [a1, a2, a3, a4, a5, a6].Nodup
section
variable {K : PySem.W.Frag} {H H' : Hp} {p dx a1 a2 a3 a4 a5 a6 : Addr} {F Pa B E S T : List V}
theorem PL.same (c : PL K H p dx a1 a2 a3 a4 a5 a6 F Pa B E S T) (s : Same H H') : PL K H' p dx a1 a2 a3 a4 a5 a6 F Pa B E S T := ⟨s _ _ c.ob, s _ _ c.h1, s _ _ c.h2, s _ _ c.h3, s _ _ c.h4, s _ _ c.h5, s _ _ c.h6, c.nd⟩
theorem PL.np (c : PL K H p dx a1 a2 a3 a4 a5 a6 F Pa B E S T) : p ≠ a1 ∧ p ≠ a2 ∧ p ≠ a3 ∧ p ≠ a4 ∧ p ≠ a5 ∧ p ≠ a6 :=
  ⟨ne_of c.ob c.h1 (by intro z; cases z), ne_of c.ob c.h2 (by intro z; cases z), ne_of c.ob c.h3 (by intro z; cases z), ne_of c.ob c.h4 (by intro z; cases z), ne_of c.ob c.h5 (by intro z; cases z), ne_of c.ob c.h6 (by intro z; cases z)⟩
theorem PL.ns (c : PL K H p dx a1 a2 a3 a4 a5 a6 F Pa B E S T) : (a1 ≠ a2 ∧ a1 ≠ a3 ∧ a1 ≠ a4 ∧ a1 ≠ a5 ∧ a1 ≠ a6) ∧ (a2 ≠ a3 ∧ a2 ≠ a4 ∧ a2 ≠ a5 ∧ a2 ≠ a6) ∧ (a3 ≠ a4 ∧ a3 ≠ a5 ∧ a3 ≠ a6) ∧ (a4 ≠ a5 ∧ a4 ≠ a6) ∧ a5 ≠ a6 := by
  have n := c.nd
  simp only [List.nodup_cons, List.mem_cons, List.not_mem_nil, or_false, not_or, List.nodup_nil, and_true] at n
  obtain ⟨n1, n2, n3, n4, n5, _⟩ := n
  exact ⟨n1, n2, n3, n4, n5⟩
theorem PL.put1 (c : PL K H p dx a1 a2 a3 a4 a5 a6 F Pa B E S T) (X : List V) : PL K (upd H a1 (.lst X)) p dx a1 a2 a3 a4 a5 a6 X Pa B E S T := by
  obtain ⟨⟨q1, q2, q3, q4, q5⟩, _⟩ := c.ns
  exact ⟨by rw [upd_ne c.np.1]; exact c.ob, upd_same, by rw [upd_ne q1.symm]; exact c.h2, by rw [upd_ne q2.symm]; exact c.h3, by rw [upd_ne q3.symm]; exact c.h4, by rw [upd_ne q4.symm]; exact c.h5, by rw [upd_ne q5.symm]; exact c.h6, c.nd⟩
theorem PL.put2 (c : PL K H p dx a1 a2 a3 a4 a5 a6 F Pa B E S T) (X : List V) : PL K (upd H a2 (.lst X)) p dx a1 a2 a3 a4 a5 a6 F X B E S T := by
  obtain ⟨⟨q1, _⟩, ⟨q2, q3, q4, q5⟩, _⟩ := c.ns
  exact ⟨by rw [upd_ne c.np.2.1]; exact c.ob, by rw [upd_ne q1]; exact c.h1, upd_same, by rw [upd_ne q2.symm]; exact c.h3, by rw [upd_ne q3.symm]; exact c.h4, by rw [upd_ne q4.symm]; exact c.h5, by rw [upd_ne q5.symm]; exact c.h6, c.nd⟩
theorem PL.put3 (c : PL K H p dx a1 a2 a3 a4 a5 a6 F Pa B E S T) (X : List V) : PL K (upd H a3 (.lst X)) p dx a1 a2 a3 a4 a5 a6 F Pa X E S T := by
  obtain ⟨⟨_, q1, _⟩, ⟨q2, _⟩, ⟨q3, q4, q5⟩, _⟩ := c.ns
  exact ⟨by rw [upd_ne c.np.2.2.1]; exact c.ob, by rw [upd_ne q1]; exact c.h1, by rw [upd_ne q2]; exact c.h2, upd_same, by rw [upd_ne q3.symm]; exact c.h4, by rw [upd_ne q4.symm]; exact c.h5, by rw [upd_ne q5.symm]; exact c.h6, c.nd⟩
theorem PL.put4 (c : PL K H p dx a1 a2 a3 a4 a5 a6 F Pa B E S T) (X : List V) : PL K (upd H a4 (.lst X)) p dx a1 a2 a3 a4 a5 a6 F Pa B X S T := by
  obtain ⟨⟨_, _, q1, _⟩, ⟨_, q2, _⟩, ⟨q3, _⟩, ⟨q4, q5⟩, _⟩ := c.ns
  exact ⟨by rw [upd_ne c.np.2.2.2.1]; exact c.ob, by rw [upd_ne q1]; exact c.h1, by rw [upd_ne q2]; exact c.h2, by rw [upd_ne q3]; exact c.h3, upd_same, by rw [upd_ne q4.symm]; exact c.h5, by rw [upd_ne q5.symm]; exact c.h6, c.nd⟩
theorem PL.put5 (c : PL K H p dx a1 a2 a3 a4 a5 a6 F Pa B E S T) (X : List V) : PL K (upd H a5 (.lst X)) p dx a1 a2 a3 a4 a5 a6 F Pa B E X T := by
  obtain ⟨⟨_, _, _, q1, _⟩, ⟨_, _, q2, _⟩, ⟨_, q3, _⟩, ⟨q4, _⟩, q5⟩ := c.ns
  exact ⟨by rw [upd_ne c.np.2.2.2.2.1]; exact c.ob, by rw [upd_ne q1]; exact c.h1, by rw [upd_ne q2]; exact c.h2, by rw [upd_ne q3]; exact c.h3, by rw [upd_ne q4]; exact c.h4, upd_same, by rw [upd_ne q5.symm]; exact c.h6, c.nd⟩
theorem PL.put6 (c : PL K H p dx a1 a2 a3 a4 a5 a6 F Pa B E S T) (X : List V) : PL K (upd H a6 (.lst X)) p dx a1 a2 a3 a4 a5 a6 F Pa B E S X := by
  obtain ⟨⟨_, _, _, _, q1⟩, ⟨_, _, _, q2⟩, ⟨_, _, q3⟩, ⟨_, q4⟩, q5⟩ := c.ns
  exact ⟨by rw [upd_ne c.np.2.2.2.2.2]; exact c.ob, by rw [upd_ne q1]; exact c.h1, by rw [upd_ne q2]; exact c.h2, by rw [upd_ne q3]; exact c.h3, by rw [upd_ne q4]; exact c.h4, by rw [upd_ne q5]; exact c.h5, upd_same, c.nd⟩
/-- another object is written -/
theorem PL.other (c : PL K H p dx a1 a2 a3 a4 a5 a6 F Pa B E S T) {b : Addr} {o : HO} (n : ¬ C6 a1 a2 a3 a4 a5 a6 b) (np : b ≠ p) : PL K (upd H b o) p dx a1 a2 a3 a4 a5 a6 F Pa B E S T :=
  ⟨by rw [upd_ne np.symm]; exact c.ob, by rw [upd_ne (fun z => n (.inl z.symm))]; exact c.h1, by rw [upd_ne (fun z => n (.inr (.inl z.symm)))]; exact c.h2, by rw [upd_ne (fun z => n (.inr (.inr (.inl z.symm))))]; exact c.h3, by rw [upd_ne (fun z => n (.inr (.inr (.inr (.inl z.symm)))))]; exact c.h4,
    by rw [upd_ne (fun z => n (.inr (.inr (.inr (.inr (.inl z.symm))))))]; exact c.h5, by rw [upd_ne (fun z => n (.inr (.inr (.inr (.inr (.inr z.symm))))))]; exact c.h6, c.nd⟩
theorem PL.new (c : PL K H p dx a1 a2 a3 a4 a5 a6 F Pa B E S T) {b : Addr} (n : H b = none) : ¬ C6 a1 a2 a3 a4 a5 a6 b := by
  rintro (z | z | z | z | z | z)
  · rw [z, c.h1] at n; cases n
  · rw [z, c.h2] at n; cases n
  · rw [z, c.h3] at n; cases n
  · rw [z, c.h4] at n; cases n
  · rw [z, c.h5] at n; cases n
  · rw [z, c.h6] at n; cases n
end
def AnyAt (K : PySem.W.Frag) (H : Hp) (x : AnyRow) (v : V) : Prop := RowAt K H (x.1 + 1) x.2 v

def PathsAt (H : Hp) (pl : List (List Int)) (pa : List Addr) : Prop := All2 (fun ns a => H a = some (.tup (ns.map V.int))) pl pa
def CellsAt (H : Hp) (en : List (List Int)) (ce : List Addr) : Prop := All2 (fun is c => H c = some (.lst (is.map V.int))) en ce
/-- the plan P stands at p -/
structure PAtx (K : PySem.W.Frag) (H0 H : Hp) (p dx a1 a2 a3 a4 a5 a6 : Addr) (F : List V) (pa ce cs : List Addr) (P : PM) : Prop where
  pl : PL K H p dx a1 a2 a3 a4 a5 a6 F (pa.map V.ref) (P.bh.map V.int) (ce.map V.ref) (cs.map V.ref) (P.st.map V.int)
  fl : All2 (AnyAt K H0) P.fl F
  pt : PathsAt H P.pl pa
  en : CellsAt H P.en ce
  sd : CellsAt H P.sd cs
  nd : (ce ++ cs).Nodup
  out : ∀ c ∈ ce ++ cs, ¬ C6 a1 a2 a3 a4 a5 a6 c
def PAt (K : PySem.W.Frag) (H0 H : Hp) (p dx a1 a2 a3 a4 a5 a6 : Addr) (P : PM) : Prop := ∃ F pa ce cs, PAtx K H0 H p dx a1 a2 a3 a4 a5 a6 F pa ce cs P
theorem All2.set {α β : Type} {R R' : α → β → Prop} {xs : List α} {ys : List β} (h : All2 R xs ys) : ∀ (i : Nat) (x : α), (∀ j x y, j ≠ i → xs[j]? = some x → ys[j]? = some y → R x y → R' x y) → (∀ y, ys[i]? = some y → R' x y) → All2 R' (xs.set i x) ys := by
  induction h with
  | nil => intro i x _ _; exact .nil
  | cons h t ih =>
    intro i x k1 k2
    cases i with
    | zero =>
      refine .cons (k2 _ rfl) ?_
      have k3 : ∀ (j : Nat) x y, _ → _ → R x y → R' x y := fun j x y e1 e2 r => k1 (j + 1) x y (by omega) e1 e2 r
      clear k1 k2 ih h
      induction t with
      | nil => exact .nil
      | cons h t ih => exact .cons (k3 0 _ _ rfl rfl h) (ih fun j x y e1 e2 r => k3 (j + 1) x y e1 e2 r)
    | succ i => exact .cons (k1 0 _ _ (by omega) rfl rfl h) (ih i x (fun j x y n e1 e2 r => k1 (j + 1) x y (by omega) e1 e2 r) k2)
section
variable {K : PySem.W.Frag} {H0 H H' : Hp} {p dx a1 a2 a3 a4 a5 a6 : Addr} {F : List V} {pa ce cs : List Addr} {P : PM}
theorem PL.noTup {F P2 B E S T xs : List V} (c : PL K H p dx a1 a2 a3 a4 a5 a6 F P2 B E S T) {t : Addr} (h1 : H t = some (.tup xs)) : ¬ C6 a1 a2 a3 a4 a5 a6 t := by
  rintro (z | z | z | z | z | z)
  · rw [z, c.h1] at h1; cases h1
  · rw [z, c.h2] at h1; cases h1
  · rw [z, c.h3] at h1; cases h1
  · rw [z, c.h4] at h1; cases h1
  · rw [z, c.h5] at h1; cases h1
  · rw [z, c.h6] at h1; cases h1
theorem PathsAt.kp {C : Addr → Prop} {pl : List (List Int)} (h : PathsAt H pl pa) (k : Kp C H H') (n : ∀ t xs, H t = some (.tup xs) → ¬ C t) : PathsAt H' pl pa := h.imp fun _ _ _ e => k _ _ e (n _ _ e)
theorem CellsAt.kp {C : Addr → Prop} {en : List (List Int)} (h : CellsAt H en ce) (k : Kp C H H') (n : ∀ c ∈ ce, ¬ C c) : CellsAt H' en ce := by
  unfold CellsAt at h ⊢
  induction h with
  | nil => exact .nil
  | cons h t ih => exact .cons (k _ _ h (n _ List.mem_cons_self)) (ih fun c hc => n c (List.mem_cons_of_mem _ hc))
theorem PAtx.same (c : PAtx K H0 H p dx a1 a2 a3 a4 a5 a6 F pa ce cs P) (s : Same H H') : PAtx K H0 H' p dx a1 a2 a3 a4 a5 a6 F pa ce cs P :=
  ⟨c.pl.same s, c.fl, c.pt.imp fun _ _ _ e => s _ _ e, c.en.imp fun _ _ _ e => s _ _ e, c.sd.imp fun _ _ _ e => s _ _ e, c.nd, c.out⟩
theorem PAt.same (c : PAt K H0 H p dx a1 a2 a3 a4 a5 a6 P) (s : Same H H') : PAt K H0 H' p dx a1 a2 a3 a4 a5 a6 P := by
  obtain ⟨F, pa, ce, cs, c⟩ := c
  exact ⟨F, pa, ce, cs, c.same s⟩
theorem PAtx.cell (c : PAtx K H0 H p dx a1 a2 a3 a4 a5 a6 F pa ce cs P) {h : Nat} (hl : h < P.en.length) : ∃ e, ce[h]? = some e ∧ H e = some (.lst ((P.en.getD h []).map V.int)) := by
  have e1 : P.en[h]? = some P.en[h] := List.getElem?_eq_getElem hl
  obtain ⟨e, he, hr⟩ := c.en.right e1
  exact ⟨e, he, by rw [hr, List.getD_eq_getElem?_getD, e1]; rfl⟩
theorem PAtx.cellS (c : PAtx K H0 H p dx a1 a2 a3 a4 a5 a6 F pa ce cs P) {h : Nat} (hl : h < P.sd.length) : ∃ e, cs[h]? = some e ∧ H e = some (.lst ((P.sd.getD h []).map V.int)) := by
  have e1 : P.sd[h]? = some P.sd[h] := List.getElem?_eq_getElem hl
  obtain ⟨e, he, hr⟩ := c.sd.right e1
  exact ⟨e, he, by rw [hr, List.getD_eq_getElem?_getD, e1]; rfl⟩
theorem nodup_ne {xs : List Addr} (n : xs.Nodup) {i j : Nat} {x y : Addr} (hi : xs[i]? = some x) (hj : xs[j]? = some y) (h : i ≠ j) : x ≠ y := fun e => by
  obtain ⟨l1, e1⟩ := List.getElem?_eq_some_iff.mp hi
  obtain ⟨l2, e2⟩ := List.getElem?_eq_some_iff.mp hj
  have q := List.pairwise_iff_getElem.mp n
  rcases Nat.lt_or_gt_of_ne h with g | g
  · exact q i j l1 l2 g (by rw [e1, e2, e])
  · exact q j i l2 l1 g (by rw [e1, e2, e])
/-- a first place is put down -/
theorem PAtx.entry (c : PAtx K H0 H p dx a1 a2 a3 a4 a5 a6 F pa ce cs P) {h : Nat} {e : Addr} (he : ce[h]? = some e) (hv : H e = some (.lst ((P.en.getD h []).map V.int))) (x : Int) :
    PAtx K H0 (upd H e (.lst ((P.en.getD h []).map V.int ++ [.int x]))) p dx a1 a2 a3 a4 a5 a6 F pa ce cs (P.entry h x) := by
  have em : e ∈ ce ++ cs := List.mem_append_left _ (List.mem_of_getElem? he)
  have np : e ≠ p := ne_of hv c.pl.ob (by intro z; cases z)
  have ev : (P.en.getD h []).map V.int ++ [V.int x] = (P.en.getD h [] ++ [x]).map V.int := by simp
  refine ⟨c.pl.other (c.out _ em) np, c.fl, c.pt.imp fun _ _ _ q => ?_, ?_, ?_, c.nd, c.out⟩
  · rw [upd_ne (ne_of q hv (by intro z; cases z))]
    exact q
  · refine All2.set c.en h _ (fun j x y n h1 h2 r => ?_) (fun y hy => ?_)
    · rw [upd_ne (nodup_ne (List.nodup_append.mp c.nd).1 h2 he n)]
      exact r
    · rw [he] at hy
      cases hy
      rw [upd_same, ev]
  · have dis := (List.nodup_append.mp c.nd).2.2
    refine CellsAt.kp (C := (· = e)) c.sd (Kp.put rfl) fun d hd z => ?_
    exact dis e (List.mem_of_getElem? he) d hd z.symm
/-- a branch is numbered -/
theorem PAtx.side (c : PAtx K H0 H p dx a1 a2 a3 a4 a5 a6 F pa ce cs P) {h : Nat} {e : Addr} (he : cs[h]? = some e) (hv : H e = some (.lst ((P.sd.getD h []).map V.int))) (x : Int) :
    PAtx K H0 (upd (upd H e (.lst ((P.sd.getD h []).map V.int ++ [.int (P.st.length : Nat)]))) a6 (.lst (P.st.map V.int ++ [.int x]))) p dx a1 a2 a3 a4 a5 a6 F pa ce cs (P.side h x) := by
  have em : e ∈ ce ++ cs := List.mem_append_right _ (List.mem_of_getElem? he)
  have np : e ≠ p := ne_of hv c.pl.ob (by intro z; cases z)
  have ev : (P.sd.getD h []).map V.int ++ [V.int (P.st.length : Nat)] = (P.sd.getD h [] ++ [(P.st.length : Int)]).map V.int := by simp
  have e2 : P.st.map V.int ++ [V.int x] = (P.st ++ [x]).map V.int := by simp
  have n6 : ∀ c' ∈ ce ++ cs, c' ≠ a6 := fun c' hc z => c.out c' hc (.inr (.inr (.inr (.inr (.inr z)))))
  have t6 : ∀ {t : Addr} {xs : List V}, H t = some (.tup xs) → t ≠ a6 := fun q z => c.pl.noTup q (.inr (.inr (.inr (.inr (.inr z)))))
  have pl2 := (c.pl.other (o := .lst ((P.sd.getD h []).map V.int ++ [.int (P.st.length : Nat)])) (c.out _ em) np).put6 (P.st.map V.int ++ [.int x])
  rw [e2] at pl2 ⊢
  refine ⟨pl2, c.fl, c.pt.imp fun _ _ _ q => ?_, ?_, ?_, c.nd, c.out⟩
  · rw [upd_ne (t6 q), upd_ne (ne_of q hv (by intro z; cases z))]
    exact q
  · have dis := (List.nodup_append.mp c.nd).2.2
    refine CellsAt.kp (C := fun b => b = e ∨ b = a6) c.en (fun b o hb nb => ?_) fun d hd z => ?_
    · rw [upd_ne (fun z => nb (.inr z)), upd_ne (fun z => nb (.inl z))]
      exact hb
    · rcases z with z | z
      · exact dis d hd e (List.mem_of_getElem? he) z
      · exact n6 d (List.mem_append_left _ hd) z
  · refine All2.set c.sd h _ (fun j x y n h1 h2 r => ?_) (fun y hy => ?_)
    · rw [upd_ne (n6 y (List.mem_append_right _ (List.mem_of_getElem? h2))), upd_ne (nodup_ne (List.nodup_append.mp c.nd).2.1 h2 he n)]
      exact r
    · rw [he] at hy
      cases hy
      rw [upd_ne (n6 e em), upd_same, ev]
end
def spEnd (K : PySem.W.Frag) : Sp := fun vs H Q _ => ∃ (v : V) (x y : Int) (d : Nat) (r : Row (d + 1)), vs = [v, .int x, .int y] ∧ RowAt K H (d + 1) r v ∧ Q (.int (endOf r.1 x y)) H
section
variable {P : Program} {w : World} {K : PySem.W.Frag} {mg : Str → Option Value} {base : Heap}
theorem ok_end_within {f : Addr} {fd : FuncData} (F : FnP K "end_within" "end_within" s_end_within f fd) (T : Tx w K mg) : FnOk P w K mg base CX0 1 f fd p_end_within (spEnd K) := by
  refine F.ok sc_end_within (fun vs H Q E h => ?_) (fun cdv A outer s H vs Q E hr h => ?_)
  · obtain ⟨v, x, y, _, _, rfl, _⟩ := h
    rfl
  · obtain ⟨v, x, y, d, r, rfl, ⟨a, vs, rfl, ha, _⟩, k⟩ := h
    obtain ⟨t1, mTHROUGH⟩ := T.m_THROUGH
    refine ⟨_, PSs.nox (pss_cons (ps_if (pt_cmpR op_eq (pe_ix ix_tup (pv 0) pe_int (fun _ _ => rfl)) pe_str (nomark _)) (pss_one (ps_ret (pv 1))) pss_nil)
      (pss_cons (ps_if (pt_cmpR op_eq (pe_ix ix_tup (pv 0) pe_int (fun _ _ => rfl)) pe_str (nomark _)) (pss_one (ps_ret (pe_glob (by rfl) mTHROUGH (show RelV (.int (-1)) _ from ⟨_, rfl⟩)))) pss_nil)
      (pss_one (ps_ret (pv 2))))), ?_⟩
    refine ⟨_, rfl, a, _, _, .str r.1, rfl, rfl, ha, at0, rfl, _, rfl, ?_⟩
    have dec : ∀ z : Str, decide (V.str r.1 = V.str z) = decide (r.1 = z) := fun z => by
      congr 1
      exact propext ⟨fun q => V.str.inj q, fun q => congrArg V.str q⟩
    have e : endOf r.1 x y = (if r.1 = "loop" then x else if r.1 = "both" then -1 else y) := rfl
    rw [e] at k
    refine ite2 (fun h => ⟨_, rfl, ?_⟩) fun h => ?_
    · rw [if_pos (of_decide_eq_true ((dec _).symm.trans h))] at k
      exact k
    rw [if_neg fun z => h ((dec _).trans (decide_eq_true z))] at k
    refine ⟨_, rfl, a, _, _, .str r.1, rfl, rfl, ha, at0, rfl, _, rfl, ?_⟩
    refine ite2 (fun h => ?_) fun h => ⟨_, rfl, ?_⟩
    · rw [if_pos (of_decide_eq_true ((dec _).symm.trans h))] at k
      exact k
    · rw [if_neg fun z => h ((dec _).trans (decide_eq_true z))] at k
      exact k
end
end OR

set_option Elab.async false
set_option maxRecDepth 100000
set_option maxHeartbeats 8000000
set_option linter.all false
namespace OR
open PySem PySem.Spec PyProof.Rows L2 TS2
theorem at_mid {X Y : List V} {v : V} {n : Nat} (h : X.length = n) : atI ((X ++ [v]) ++ Y) (n : Int) = some v := by
  refine atI_nat ?_
  rw [List.append_assoc, List.getElem?_append_right (by omega), h]
  simp
/-- a plan laid on: more rows, more cells -/
def Laid (K : PySem.W.Frag) (H0 H H' : Hp) (p dx a1 a2 a3 a4 a5 a6 : Addr) (F : List V) (pa ce cs : List Addr) (P' : PM) : Prop :=
  Kp (C6 a1 a2 a3 a4 a5 a6) H H' ∧ ∃ F2 pa2 ce2 cs2, PAtx K H0 H' p dx a1 a2 a3 a4 a5 a6 (F ++ F2) (pa ++ pa2) (ce ++ ce2) (cs ++ cs2) P' ∧ ∀ c ∈ ce2 ++ cs2, H c = none
theorem new_app {H : Hp} {a b c d : List Addr} (h1 : ∀ x ∈ a ++ b, H x = none) (h2 : ∀ x ∈ c ++ d, H x = none) : ∀ x ∈ (a ++ c) ++ (b ++ d), H x = none := fun x hx => by
  rcases List.mem_append.mp hx with h | h <;> rcases List.mem_append.mp h with h | h
  · exact h1 x (List.mem_append_left _ h)
  · exact h2 x (List.mem_append_left _ h)
  · exact h1 x (List.mem_append_right _ h)
  · exact h2 x (List.mem_append_right _ h)
def RoomP (P : PM) (n : Nat) : Prop := P.Ok ∧ P.fl.length + n ≤ 3000 ∧ P.st.length + 1000 * n ≤ 4000000
def spLayRow (K : PySem.W.Frag) : Nat → Sp
  | 0 => fun _ _ _ _ => False
  | d + 1 => fun vs H Q _ => ∃ (p tp : Addr) (v : V) (b ex : Int) (H0 : Hp) (r : Row (d + 1)) (dx a1 a2 a3 a4 a5 a6 : Addr) (F : List V) (pa ce cs : List Addr) (P : PM) (ns : List Int), vs = [.ref p, v, .ref tp, .int b, .int ex] ∧ PAtx K H0 H p dx a1 a2 a3 a4 a5 a6 F pa ce cs P ∧ RoomP P (rsz (d + 1) r) ∧
    RowAt K H0 (d + 1) r v ∧ Same H0 H ∧ Sep H0 (C6 a1 a2 a3 a4 a5 a6) ∧ Shape (d + 1) r ∧ H tp = some (.tup (ns.map V.int)) ∧ ns.length + 2 * d + 1 ≤ 90 ∧ ∀ H', Laid K H0 H H' p dx a1 a2 a3 a4 a5 a6 F pa ce cs (layR (d + 1) r ns b ex P) → Q .non H'
def spLayList (K : PySem.W.Frag) : Nat → Sp
  | 0 => fun _ _ _ _ => False
  | d + 1 => fun vs H Q _ => ∃ (p ra tp : Addr) (e ex : Int) (H0 : Hp) (rows : List (Row d)) (xs : List V) (dx a1 a2 a3 a4 a5 a6 : Addr) (F : List V) (pa ce cs : List Addr) (P : PM) (ns : List Int), vs = [.ref p, .ref ra, .ref tp, .int e, .int ex] ∧ PAtx K H0 H p dx a1 a2 a3 a4 a5 a6 F pa ce cs P ∧ RoomP P (lsz d rows) ∧
    H0 ra = some (.lst xs) ∧ All2 (RowAt K H0 d) rows xs ∧ Same H0 H ∧ Sep H0 (C6 a1 a2 a3 a4 a5 a6) ∧ (∀ r ∈ rows, Shape d r) ∧ H tp = some (.tup (ns.map V.int)) ∧ ns.length + 2 * d ≤ 90 ∧ ∀ H', Laid K H0 H H' p dx a1 a2 a3 a4 a5 a6 F pa ce cs (layL d rows ns e ex P) → Q .non H'
theorem strq (a b : Str) : decide (V.str a = V.str b) = decide (a = b) := by
  congr 1
  exact propext ⟨fun q => V.str.inj q, fun q => congrArg V.str q⟩
section
variable {P : Program} {w : World} {K : PySem.W.Frag} {mg : Str → Option Value} {base : Heap}
theorem ok_lay_row {k0 d : Nat} {f : Addr} {fd : FuncData} (F0 : FnP K "lay_row" "Plan.lay_row" s_Plan_lay_row f fd) (T0 : Tx w K mg) (h1 : 1 ≤ k0) (G_lists_of : Def P w K mg base CX0 1 "lists_of" p_lists_of (spListsOf K)) (G_end_within : Def P w K mg base CX0 1 "end_within" p_end_within (spEnd K))
    (M_lay_list : MDef P w K mg base CX0 k0 (He.ga K "Plan") "lay_list" p_Plan_lay_list (spLayList K (d + 1))) : FnOk P w K mg base CX0 (k0 + 1) f fd p_Plan_lay_row (spLayRow K (d + 1)) := by
  have T := T0
  refine F0.ok sc_Plan_lay_row (fun vs H Q E h => ?_) (fun cdv A outer s H vs Q E hr h => ?_)
  · obtain ⟨p, tp, v, b, ex, _, _, _, _, _, _, _, _, _, _, _, _, _, _, _, rfl, _⟩ := h
    rfl
  · obtain ⟨p, tp, v, bh, ex, H0, r, dx, a1, a2, a3, a4, a5, a6, F, pa, ce, cs, P, ns, rfl, c, ⟨ok, lF, lT⟩, hra, S0, sep, sh, htp, fewp, k⟩ := h
    obtain ⟨b, vs, rfl, hb, hpb⟩ := id hra
    obtain ⟨⟨fs, hf, hk⟩, wl, k1000, sk⟩ := id sh
    have er : rsz (d + 1) r = 1 + ((kids r.2).map (lsz d)).sum := rfl
    have pl := c.pl
    have lFF : F.length = P.fl.length := c.fl.len.symm
    have lpa : pa.length = P.fl.length := by rw [← c.pt.len, ok.p]
    have lce : ce.length = P.fl.length := by rw [← c.en.len, ok.e]
    have lcs : cs.length = P.fl.length := by rw [← c.sd.len, ok.s]
    have tpC : ¬ C6 a1 a2 a3 a4 a5 a6 tp := pl.noTup htp
    rw [er] at lF lT
    refine ⟨_, PSs.nox (pss_cons (ps_set (i := 5) sc_Plan_lay_row.nd rfl (.inl rfl) (pe_callB call_len_seq (by rfl) T.b_len PySem.boot_len (pa_cons (pe_fld (pv 0) rfl) pa_nil)))
      (pss_cons (ps_expr (pe_bm PySem.F.plainAttrs_list PySem.F.slot_list_append PySem.F.type_list_append mt_append (pe_fld (pv 0) rfl) (pa_cons (pv 1) pa_nil)))
      (pss_cons (ps_expr (pe_bm PySem.F.plainAttrs_list PySem.F.slot_list_append PySem.F.type_list_append mt_append (pe_fld (pv 0) rfl) (pa_cons (pv 2) pa_nil)))
      (pss_cons (ps_expr (pe_bm PySem.F.plainAttrs_list PySem.F.slot_list_append PySem.F.type_list_append mt_append (pe_fld (pv 0) rfl) (pa_cons (pe_ifExp (pt_cmpR op_eq (pe_ix ix_tup (pv 1) pe_int (fun _ _ => rfl)) pe_str (nomark _)) (pv 4) (pv 3)) pa_nil)))
      (pss_cons (ps_expr (pe_bm PySem.F.plainAttrs_list PySem.F.slot_list_append PySem.F.type_list_append mt_append (pe_fld (pv 0) rfl) (pa_cons (pe_lst pa_nil) pa_nil)))
      (pss_cons (ps_expr (pe_bm PySem.F.plainAttrs_list PySem.F.slot_list_append PySem.F.type_list_append mt_append (pe_fld (pv 0) rfl) (pa_cons (pe_lst pa_nil) pa_nil)))
      (pss_one (ps_for PassesOwn.never rfl (pi_enum (by rfl) T.b_enumerate (pa_cons (pe_fn G_lists_of (hr.mono (by omega)) (by rfl) pass0 (pa_cons (pv 1) pa_nil)) pa_nil)) (pg_tup (by rfl) (pgs_cons (pg_name (i := 6) sc_Plan_lay_row.nd rfl (.inl rfl)) (pgs_cons (pg_name (i := 7) sc_Plan_lay_row.nd rfl (.inl rfl)) pgs_nil))) (pss_cons (ps_set (i := 8) sc_Plan_lay_row.nd rfl (.inl rfl) (pe_fn G_end_within (hr.mono (by omega)) (by rfl) pass0 (pa_cons (pv 1) (pa_cons (pv 5) (pa_cons (pv 3) pa_nil)))))
      (pss_cons (ps_set (i := 9) sc_Plan_lay_row.nd rfl (.inl rfl) (pe_ifExp (pt_cmpR op_eq (pe_callB call_len_seq (by rfl) T.b_len PySem.boot_len (pa_cons (pv 7) pa_nil)) pe_int (nomark _)) (pv 8) (pe_callB call_len_seq (by rfl) T.b_len PySem.boot_len (pa_cons (pe_fld (pv 0) rfl) pa_nil))))
      (pss_cons (ps_expr (pe_bm PySem.F.plainAttrs_list PySem.F.slot_list_append PySem.F.type_list_append mt_append (pe_ix ix_list (pe_fld (pv 0) rfl) (pv 5) (fun _ _ => rfl)) (pa_cons (pv 9) pa_nil)))
      (pss_cons (ps_if (pt_cmpR op_eq (pe_ix ix_tup (pv 1) pe_int (fun _ _ => rfl)) pe_str (nomark _)) (pss_cons (ps_expr (pe_bm PySem.F.plainAttrs_list PySem.F.slot_list_append PySem.F.type_list_append mt_append (pe_ix ix_list (pe_fld (pv 0) rfl) (pv 5) (fun _ _ => rfl)) (pa_cons (pe_callB call_len_seq (by rfl) T.b_len PySem.boot_len (pa_cons (pe_fld (pv 0) rfl) pa_nil)) pa_nil)))
      (pss_one (ps_expr (pe_bm PySem.F.plainAttrs_list PySem.F.slot_list_append PySem.F.type_list_append mt_append (pe_fld (pv 0) rfl) (pa_cons (pv 9) pa_nil))))) pss_nil)
      (pss_one (ps_expr (pe_mth M_lay_list (hr.mono (by omega)) pass0 (pv 0) (pa_cons (pv 7) (pa_cons (pe_op op_catA (pv 2) (pe_tup (pa_cons (pv 6) pa_nil))) (pa_cons (pv 8) (pa_cons (pe_ifExp (pt_cmpR op_eq (pe_ix ix_tup (pv 1) pe_int (fun _ _ => rfl)) pe_str (nomark _)) (pv 3) (pv 4)) pa_nil))))))))))))))))))), ?_⟩
    refine ⟨_, rfl, p, _, dx, _, .ref a1, rfl, pl.ob, T.c_Plan, T.n_Plan_flat, rfl, a1, _, rfl, .inl (SqL.of pl.h1), ?_⟩
    rw [lFF]
    -- flat
    refine ⟨_, rfl, p, _, dx, _, .ref a1, rfl, pl.ob, T.c_Plan, T.n_Plan_flat, rfl, .inl ⟨rfl, _, SqL.of pl.h1⟩, _, rfl, a1, F, _, rfl, rfl, pl.h1, by rw [sizeLine_eq]; omega, ?_⟩
    have pl1 := pl.put1 (F ++ [.ref b])
    have k1 : Kp (C6 a1 a2 a3 a4 a5 a6) H (upd H a1 (.lst (F ++ [.ref b]))) := Kp.put (C := C6 a1 a2 a3 a4 a5 a6) (.inl rfl)
    generalize upd H a1 (.lst (F ++ [.ref b])) = H1 at pl1 k1 ⊢
    -- places
    refine ⟨_, rfl, p, _, dx, _, .ref a2, rfl, pl1.ob, T.c_Plan, T.n_Plan_places, rfl, .inl ⟨rfl, _, SqL.of pl1.h2⟩, _, rfl, a2, _, _, rfl, rfl, pl1.h2, by rw [List.length_map, sizeLine_eq]; omega, ?_⟩
    have pl2 := pl1.put2 (pa.map V.ref ++ [.ref tp])
    have k2 : Kp (C6 a1 a2 a3 a4 a5 a6) H (upd H1 a2 (.lst (pa.map V.ref ++ [.ref tp]))) := k1.trans (Kp.put (C := C6 a1 a2 a3 a4 a5 a6) (.inr (.inl rfl)))
    generalize upd H1 a2 (.lst (pa.map V.ref ++ [.ref tp])) = H2 at pl2 k2 ⊢
    have base : ∀ {H' : Hp}, Kp (C6 a1 a2 a3 a4 a5 a6) H H' → Same H0 H' := fun k => Kp.base S0 k sep
    -- behind
    refine ⟨_, rfl, p, _, dx, _, .ref a3, rfl, pl2.ob, T.c_Plan, T.n_Plan_behind, rfl, .inl ⟨rfl, _, SqL.of pl2.h3⟩, ?_⟩
    refine ⟨_, rfl, b, _, _, .str r.1, rfl, rfl, sameT (base k2) hb, at0, rfl, _, rfl, ?_⟩
    refine ite2 (fun hw => ⟨_, rfl, a3, _, .int ex, rfl, rfl, pl2.h3, by rw [List.length_map, sizeLine_eq, ok.b]; omega, ?_⟩) (fun hw => ⟨_, rfl, a3, _, .int bh, rfl, rfl, pl2.h3, by rw [List.length_map, sizeLine_eq, ok.b]; omega, ?_⟩)
    (have eb : (if r.1 = "leave" then ex else bh) = ex := if_pos (of_decide_eq_true ((strq _ _).symm.trans hw))
     have pl3 := pl2.put3 (P.bh.map V.int ++ [.int ex])
     have k3 : Kp (C6 a1 a2 a3 a4 a5 a6) H (upd H2 a3 (.lst (P.bh.map V.int ++ [.int ex]))) := k2.trans (Kp.put (C := C6 a1 a2 a3 a4 a5 a6) (.inr (.inr (.inl rfl))))
     generalize upd H2 a3 (.lst (P.bh.map V.int ++ [.int ex])) = H3 at pl3 k3 ⊢
     rw [← eb] at pl3)
    rotate_left
    (have eb : (if r.1 = "leave" then ex else bh) = bh := if_neg fun z => hw ((strq _ _).trans (decide_eq_true z))
     have pl3 := pl2.put3 (P.bh.map V.int ++ [.int bh])
     have k3 : Kp (C6 a1 a2 a3 a4 a5 a6) H (upd H2 a3 (.lst (P.bh.map V.int ++ [.int bh]))) := k2.trans (Kp.put (C := C6 a1 a2 a3 a4 a5 a6) (.inr (.inr (.inl rfl))))
     generalize upd H2 a3 (.lst (P.bh.map V.int ++ [.int bh])) = H3 at pl3 k3 ⊢
     rw [← eb] at pl3)
    rotate_left
    all_goals
      -- entries
      refine ⟨_, rfl, p, _, dx, _, .ref a4, rfl, pl3.ob, T.c_Plan, T.n_Plan_entries, rfl, .inl ⟨rfl, _, SqL.of pl3.h4⟩, by show 0 ≤ sizeLine; decide, fun e1 ne1 => ?_⟩
      have ce1 := pl3.new ne1
      have pe1 : p ≠ e1 := ne_of_none pl3.ob ne1
      have pl4 := (pl3.same (Same.new (o := .lst []) ne1)).put4 (ce.map V.ref ++ [.ref e1])
      have h4 := (pl3.same (Same.new (o := .lst []) ne1)).h4
      refine ⟨a4, _, _, rfl, rfl, h4, by rw [List.length_map, sizeLine_eq]; omega, ?_⟩
      have k4 : Kp (C6 a1 a2 a3 a4 a5 a6) H (upd (upd H3 e1 (.lst [])) a4 (.lst (ce.map V.ref ++ [.ref e1]))) := (k3.trans (Kp.of (Same.new ne1))).trans (Kp.put (C := C6 a1 a2 a3 a4 a5 a6) (.inr (.inr (.inr (.inl rfl)))))
      have he4 : upd (upd H3 e1 (.lst [])) a4 (.lst (ce.map V.ref ++ [.ref e1])) e1 = some (.lst []) := by rw [upd_ne (fun z => ce1 (.inr (.inr (.inr (.inl z))))), upd_same]
      have He1 : H e1 = none := by
        cases q : H e1 with
        | none => rfl
        | some o => rw [k3 _ _ q ce1] at ne1; cases ne1
      generalize upd (upd H3 e1 (.lst [])) a4 (.lst (ce.map V.ref ++ [.ref e1])) = H4 at pl4 k4 he4 ⊢
      -- sides
      refine ⟨_, rfl, p, _, dx, _, .ref a5, rfl, pl4.ob, T.c_Plan, T.n_Plan_sides, rfl, .inl ⟨rfl, _, SqL.of pl4.h5⟩, by show 0 ≤ sizeLine; decide, fun s1 ns1 => ?_⟩
      have cs1 := pl4.new ns1
      have ps1 : p ≠ s1 := ne_of_none pl4.ob ns1
      have es1 : e1 ≠ s1 := ne_of_none he4 ns1
      have pl5 := (pl4.same (Same.new (o := .lst []) ns1)).put5 (cs.map V.ref ++ [.ref s1])
      have h5 := (pl4.same (Same.new (o := .lst []) ns1)).h5
      refine ⟨a5, _, _, rfl, rfl, h5, by rw [List.length_map, sizeLine_eq]; omega, ?_⟩
      have k5 : Kp (C6 a1 a2 a3 a4 a5 a6) H (upd (upd H4 s1 (.lst [])) a5 (.lst (cs.map V.ref ++ [.ref s1]))) := (k4.trans (Kp.of (Same.new ns1))).trans (Kp.put (C := C6 a1 a2 a3 a4 a5 a6) (.inr (.inr (.inr (.inr (.inl rfl))))))
      have hs5 : upd (upd H4 s1 (.lst [])) a5 (.lst (cs.map V.ref ++ [.ref s1])) s1 = some (.lst []) := by rw [upd_ne (fun z => cs1 (.inr (.inr (.inr (.inr (.inl z)))))), upd_same]
      have he5 : upd (upd H4 s1 (.lst [])) a5 (.lst (cs.map V.ref ++ [.ref s1])) e1 = some (.lst []) := by rw [upd_ne (fun z => ce1 (.inr (.inr (.inr (.inr (.inl z)))))), upd_ne es1]; exact he4
      have Hs1 : H s1 = none := by
        cases q : H s1 with
        | none => rfl
        | some o => rw [k4 _ _ q cs1] at ns1; cases ns1
      have cells : ∀ {C : List Addr} {X : List (List Int)}, CellsAt H X C → e1 ∉ C ∧ s1 ∉ C := fun h => by
        have all : ∀ x ∈ _, H x ≠ none := fun x hx => by
          obtain ⟨i, hi, e⟩ := List.mem_iff_getElem.mp hx
          obtain ⟨y, _, r⟩ := All2.other h (i := i) (by rw [List.getElem?_eq_getElem hi, e])
          rw [r]; simp
        exact ⟨fun z => all _ z He1, fun z => all _ z Hs1⟩
      generalize upd (upd H4 s1 (.lst [])) a5 (.lst (cs.map V.ref ++ [.ref s1])) = H5 at pl5 k5 he5 hs5 ⊢
      have c5 : PAtx K H0 H5 p dx a1 a2 a3 a4 a5 a6 (F ++ [.ref b]) (pa ++ [tp]) (ce ++ [e1]) (cs ++ [s1]) (P.row ⟨d, r⟩ ns (if r.1 = "leave" then ex else bh)) := by
        refine ⟨by simpa [PM.row] using pl5, c.fl.app (All2.one hra), (c.pt.kp k5 fun t xs q => pl.noTup q).app (All2.one (k5 _ _ htp tpC)), (c.en.kp k5 fun x hx => c.out x (List.mem_append_left _ hx)).app (All2.one he5), (c.sd.kp k5 fun x hx => c.out x (List.mem_append_right _ hx)).app (All2.one hs5), ?_, ?_⟩
        · obtain ⟨x1, x2⟩ := cells c.en
          obtain ⟨x3, x4⟩ := cells c.sd
          have nd := List.nodup_append.mp c.nd
          refine List.nodup_append.mpr ⟨List.nodup_append.mpr ⟨nd.1, by simp, fun a ha b hb => ?_⟩, List.nodup_append.mpr ⟨nd.2.1, by simp, fun a ha b hb => ?_⟩, fun a ha b hb => ?_⟩
          · rw [List.mem_singleton.mp hb]; exact fun z => x1 (z ▸ ha)
          · rw [List.mem_singleton.mp hb]; exact fun z => x4 (z ▸ ha)
          · rcases List.mem_append.mp ha with ha | ha <;> rcases List.mem_append.mp hb with hb | hb
            · exact nd.2.2 a ha b hb
            · rw [List.mem_singleton.mp hb]; exact fun z => x2 (z ▸ ha)
            · rw [List.mem_singleton.mp ha]; exact fun z => x3 (z ▸ hb)
            · rw [List.mem_singleton.mp ha, List.mem_singleton.mp hb]; exact es1
        · intro x hx
          rcases List.mem_append.mp hx with hx | hx <;> rcases List.mem_append.mp hx with hx | hx
          · exact c.out x (List.mem_append_left _ hx)
          · rw [List.mem_singleton.mp hx]; exact ce1
          · exact c.out x (List.mem_append_right _ hx)
          · rw [List.mem_singleton.mp hx]; exact cs1
      have ok5 := ok.row ⟨d, r⟩ ns (if r.1 = "leave" then ex else bh)
      have fl5 : (P.row ⟨d, r⟩ ns (if r.1 = "leave" then ex else bh)).fl.length = P.fl.length + 1 := by show (P.fl ++ [_]).length = _; simp
      have st5 : (P.row ⟨d, r⟩ ns (if r.1 = "leave" then ex else bh)).st.length = P.st.length := rfl
      have en5 : ((P.row ⟨d, r⟩ ns (if r.1 = "leave" then ex else bh)).en.getD P.fl.length []).length = 0 := by
        show ((P.en ++ [[]]).getD P.fl.length []).length = 0
        rw [List.getD_eq_getElem?_getD, List.getElem?_append_right (by rw [ok.e]; exact Nat.le_refl _), ok.e]
        simp
      have sd5 : ((P.row ⟨d, r⟩ ns (if r.1 = "leave" then ex else bh)).sd.getD P.fl.length []).length = 0 := by
        show ((P.sd ++ [[]]).getD P.fl.length []).length = 0
        rw [List.getD_eq_getElem?_getD, List.getElem?_append_right (by rw [ok.s]; exact Nat.le_refl _), ok.s]
        simp
      have efin : layR (d + 1) r ns bh ex P = layK (layL d) r.1 P.fl.length ns bh ex (kids r.2) 0 (P.row ⟨d, r⟩ ns (if r.1 = "leave" then ex else bh)) := rfl
      rw [efin] at k
      generalize P.row ⟨d, r⟩ ns (if r.1 = "leave" then ex else bh) = P5 at c5 ok5 fl5 st5 en5 sd5 k
      -- the lists within
      refine ⟨_, rfl, _, H0, d, r, fs, rfl, hra, base k5, hf, hk, k1000, fun H6 L ls S6 nL hL hls => ?_⟩
      have c6 := c5.same S6
      have k6 := k5.trans (Kp.of (C := C6 a1 a2 a3 a4 a5 a6) S6)
      have cL := c5.pl.new nL
      have Le : L ≠ e1 := fun z => by rw [z, he5] at nL; cases nL
      have Ls : L ≠ s1 := fun z => by rw [z, hs5] at nL; cases nL
      have wide : ∀ {H' : Hp}, Kp (fun c => C6 a1 a2 a3 a4 a5 a6 c ∨ c = e1 ∨ c = s1) H6 H' → Kp (C6 a1 a2 a3 a4 a5 a6) H H' := fun kk c o hc nc => kk c o (k6 c o hc nc) (by
        rintro (z | z | z)
        · exact nc z
        · rw [z, He1] at hc; cases hc
        · rw [z, Hs1] at hc; cases hc)
      generalize hFIN : layK (layL d) r.1 P.fl.length ns bh ex (kids r.2) 0 P5 = FIN at k
      refine ⟨L, _, rfl, SqL.of hL, ?_⟩
      refine for_it (walk_enum (K := K) (a := L) (xs := ls)) (fun j σ' H' => ∃ (F2 : List V) (pa2 ce2 cs2 : List Addr) (Pj : PM) (y6 y7 y8 y9 : Option V), σ' = [some (.ref p), some (.ref b), some (.ref tp), some (.int bh), some (.int ex), some (.int (P.fl.length : Nat)), y6, y7, y8, y9] ∧
          Kp (fun c => C6 a1 a2 a3 a4 a5 a6 c ∨ c = e1 ∨ c = s1) H6 H' ∧ PAtx K H0 H' p dx a1 a2 a3 a4 a5 a6 ((F ++ [.ref b]) ++ F2) ((pa ++ [tp]) ++ pa2) ((ce ++ [e1]) ++ ce2) ((cs ++ [s1]) ++ cs2) Pj ∧ Pj.Ok ∧ layK (layL d) r.1 P.fl.length ns bh ex ((kids r.2).drop j) j Pj = FIN ∧
          P.fl.length + 1 ≤ Pj.fl.length ∧ Pj.fl.length + (((kids r.2).drop j).map (lsz d)).sum ≤ 3000 ∧ Pj.st.length + 1000 * (((kids r.2).drop j).map (lsz d)).sum + (1000 - j) ≤ 4000000 ∧ (Pj.en.getD P.fl.length []).length ≤ j ∧ (Pj.sd.getD P.fl.length []).length ≤ j ∧ ∀ c ∈ ce2 ++ cs2, H c = none)
        ⟨[], [], [], [], P5, _, _, _, _, rfl, Kp.refl _, by simpa using c6, ok5, hFIN, by omega, by rw [List.drop_zero]; omega, by rw [List.drop_zero]; omega, ?_, ?_, fun c hc => by cases hc⟩ (fun j σ' H' _ q => ?_) (fun j x σ' H7 H8 hj q y => ?_) (fun σ' H' q => ?_)
      · omega
      · omega
      · obtain ⟨_, _, _, _, _, _, _, _, _, _, kk, _⟩ := q
        exact SqL.of (kk _ _ hL (by rintro (z | z | z); exact cL z; exact Le z; exact Ls z))
      · obtain ⟨F2, pa2, ce2, cs2, Pj, y6, y7, y8, y9, rfl, kk, cj, okj, eqj, l1, lf, lt, le, lsd, nwj⟩ := q
        obtain ⟨T2, num2, lv, rfl, nT2, rfl, hnum2, hlv⟩ := y
        cases Option.some.inj hnum2
        have hlv : ls[j]? = some lv := hlv
        obtain ⟨l, hl, c', cs', rfl, hc, hcs⟩ := hls.other hlv
        obtain ⟨fl, sl2⟩ := sk l (List.mem_of_getElem? hl)
        rw [sum_drop _ hl] at lf lt
        have jlt : j < (kids r.2).length := (List.getElem?_eq_some_iff.mp hl).1
        have ed : (kids r.2).drop j = l :: (kids r.2).drop (j + 1) := by
          rw [List.drop_eq_getElem_cons jlt]
          congr 1
          rw [List.getElem?_eq_getElem jlt] at hl
          exact Option.some.inj hl
        rw [ed] at eqj
        have eqj : layK (layL d) r.1 P.fl.length ns bh ex ((kids r.2).drop (j + 1)) (j + 1) (layL d l (ns ++ [(j : Int)]) (endOf r.1 P.fl.length bh) (if r.1 = "loop" then bh else ex) (Pj.first r.1 P.fl.length (firstAt l (endOf r.1 P.fl.length bh) Pj))) = FIN := eqj
        have S8 : Same H7 (upd H7 T2 (.tup [.int (j : Nat), .ref c'])) := Same.new nT2
        refine ⟨T2, _, rfl, SqT.of upd_same, rfl, _, _, rfl, _, _, rfl, rfl, ?_⟩
        have kk8 := kk.trans (Kp.of (C := fun c => C6 a1 a2 a3 a4 a5 a6 c ∨ c = e1 ∨ c = s1) S8)
        have c8 := cj.same S8
        generalize upd H7 T2 (.tup [.int (j : Nat), .ref c']) = H9 at kk8 c8 ⊢
        have S09 := base (wide kk8)
        refine ⟨_, rfl, _, rfl, _, rfl, ?_⟩
        refine ⟨_, P.fl.length, bh, d, r, rfl, RowAt.mono S09 hra, ?_⟩
        generalize hE : endOf r.1 (P.fl.length : Int) bh = ev at eqj ⊢
        refine ⟨_, rfl, c', cs', rfl, .inl (SqL.of (S09 _ _ hc)), rfl, _, rfl, ?_⟩
        have lcs' : cs'.length = l.length := hcs.len.symm
        rw [lcs']
        have lFj : ((F ++ [V.ref b]) ++ F2).length = Pj.fl.length := c8.fl.len.symm
        have hx2 := okj.first r.1 P.fl.length (firstAt l ev Pj)
        have kx2 := PM.first_len (P := Pj) (w := r.1) (here := P.fl.length) (x := firstAt l ev Pj) (by rw [okj.e]; omega) (by rw [okj.s]; omega)
        have bnd := grew_layL d l sl2 (ns ++ [(j : Int)]) ev (if r.1 = "loop" then bh else ex) _ hx2.1
        have kpl := keeps_layL d l sl2 (ns ++ [(j : Int)]) ev (if r.1 = "loop" then bh else ex) _ hx2.1
        have c8e : ∃ e, ((ce ++ [e1]) ++ ce2)[P.fl.length]? = some e ∧ H9 e = some (.lst ((Pj.en.getD P.fl.length []).map V.int)) := c8.cell (by rw [okj.e]; omega)
        have c8s : ∃ e, ((cs ++ [s1]) ++ cs2)[P.fl.length]? = some e ∧ H9 e = some (.lst ((Pj.sd.getD P.fl.length []).map V.int)) := c8.cellS (by rw [okj.s]; omega)
        have ie : ((ce ++ [e1]) ++ ce2)[P.fl.length]? = some e1 := by rw [List.append_assoc, List.getElem?_append_right (by omega), lce]; simp
        have is : ((cs ++ [s1]) ++ cs2)[P.fl.length]? = some s1 := by rw [List.append_assoc, List.getElem?_append_right (by omega), lcs]; simp
        have he8 : H9 e1 = some (.lst ((Pj.en.getD P.fl.length []).map V.int)) := by obtain ⟨e, q1, q2⟩ := c8e; rw [ie] at q1; cases q1; exact q2
        have hs8 : H9 s1 = some (.lst ((Pj.sd.getD P.fl.length []).map V.int)) := by obtain ⟨e, q1, q2⟩ := c8s; rw [is] at q1; cases q1; exact q2
        have atE : atI (((ce ++ [e1]) ++ ce2).map V.ref) (P.fl.length : Int) = some (.ref e1) := atI_nat (by rw [List.getElem?_map, ie]; rfl)
        have atS : atI (((cs ++ [s1]) ++ cs2).map V.ref) (P.fl.length : Int) = some (.ref s1) := atI_nat (by rw [List.getElem?_map, is]; rfl)
        refine ite2 (fun h0 => ?_) (fun h0 => ?_)
        (have eX : V.int ev = V.int (firstAt l ev Pj) := by
          have z := V.int.inj (of_decide_eq_true h0)
          unfold firstAt
          rw [if_pos (by omega)]
         refine ⟨V.int (firstAt l ev Pj), by rw [← eX]; rfl, ?_⟩)
        rotate_left
        (have eX : (((F ++ [V.ref b]) ++ F2).length : Int) = firstAt l ev Pj := by
          have z : ¬ l.length = 0 := fun z => h0 (decide_eq_true (by rw [z]; rfl))
          unfold firstAt
          rw [if_neg z, lFj]
         refine ⟨_, rfl, p, _, dx, _, .ref a1, rfl, c8.pl.ob, T.c_Plan, T.n_Plan_flat, rfl, a1, _, rfl, .inl (SqL.of c8.pl.h1), ?_⟩
         rw [eX])
        rotate_left
        all_goals
          generalize firstAt l ev Pj = X at hx2 kx2 bnd kpl eqj ⊢
          -- entries[here]
          refine ⟨_, rfl, p, _, dx, _, .ref a4, rfl, c8.pl.ob, T.c_Plan, T.n_Plan_entries, rfl, _, rfl, a4, _, _, .ref e1, rfl, rfl, SqL.of c8.pl.h4, atE, .inl ⟨rfl, _, SqL.of he8⟩, _, rfl, e1, _, _, rfl, rfl, he8, by rw [List.length_map]; exact small1000 (by omega), ?_⟩
          have c9 := c8.entry ie he8 X
          have kk9 : Kp (fun c => C6 a1 a2 a3 a4 a5 a6 c ∨ c = e1 ∨ c = s1) H6 (upd H9 e1 (.lst ((Pj.en.getD P.fl.length []).map V.int ++ [.int X]))) := kk8.trans (Kp.put (C := fun c => C6 a1 a2 a3 a4 a5 a6 c ∨ c = e1 ∨ c = s1) (.inr (.inl rfl)))
          have hs9 : upd H9 e1 (.lst ((Pj.en.getD P.fl.length []).map V.int ++ [.int X])) s1 = some (.lst ((Pj.sd.getD P.fl.length []).map V.int)) := by rw [upd_ne es1.symm]; exact hs8
          generalize upd H9 e1 (.lst ((Pj.en.getD P.fl.length []).map V.int ++ [.int X])) = H10 at c9 kk9 hs9 ⊢
          refine ⟨_, rfl, b, _, _, .str r.1, rfl, rfl, sameT (base (wide kk9)) hb, at0, rfl, _, rfl, ?_⟩
          refine ite2 (fun hw2 => ?_) (fun hw2 => ?_)
          (have isB : r.1 = "both" := of_decide_eq_true ((strq _ _).symm.trans hw2)
           refine ⟨_, rfl, p, _, dx, _, .ref a5, rfl, c9.pl.ob, T.c_Plan, T.n_Plan_sides, rfl, _, rfl, a5, _, _, .ref s1, rfl, rfl, SqL.of c9.pl.h5, atS, .inl ⟨rfl, _, SqL.of hs9⟩, _, rfl, p, _, dx, _, .ref a6, rfl, c9.pl.ob, T.c_Plan, T.n_Plan_starts, rfl, a6, _, rfl, .inl (SqL.of c9.pl.h6), s1, _, _, rfl, rfl, hs9, by rw [List.length_map]; exact small1000 (by omega), ?_⟩
           have st0 : (Pj.entry P.fl.length X).st = Pj.st := rfl
           have pl10 := c9.pl.other (o := .lst ((Pj.sd.getD P.fl.length []).map V.int ++ [.int (((Pj.entry P.fl.length X).st.map V.int).length : Nat)])) cs1 ps1.symm
           refine ⟨_, rfl, p, _, dx, _, .ref a6, rfl, pl10.ob, T.c_Plan, T.n_Plan_starts, rfl, .inl ⟨rfl, _, SqL.of pl10.h6⟩, _, rfl, a6, _, _, rfl, rfl, pl10.h6, by rw [List.length_map, st0, sizeLine_eq]; omega, ?_⟩
           have cn := c9.side is hs9 X
           rw [← List.length_map (f := V.int)] at cn
           have cn : PAtx K H0 (upd (upd H10 s1 (.lst ((Pj.sd.getD P.fl.length []).map V.int ++ [.int (((Pj.entry P.fl.length X).st.map V.int).length : Nat)]))) a6 (.lst ((Pj.entry P.fl.length X).st.map V.int ++ [.int X]))) p dx a1 a2 a3 a4 a5 a6 ((F ++ [V.ref b]) ++ F2) ((pa ++ [tp]) ++ pa2) ((ce ++ [e1]) ++ ce2) ((cs ++ [s1]) ++ cs2) ((Pj.entry P.fl.length X).side P.fl.length X) := cn
           have eP : (Pj.entry P.fl.length X).side P.fl.length X = Pj.first r.1 P.fl.length X := by unfold PM.first; rw [if_pos isB]
           rw [eP] at cn
           have kkn : Kp (fun c => C6 a1 a2 a3 a4 a5 a6 c ∨ c = e1 ∨ c = s1) H6 (upd (upd H10 s1 (.lst ((Pj.sd.getD P.fl.length []).map V.int ++ [.int (((Pj.entry P.fl.length X).st.map V.int).length : Nat)]))) a6 (.lst ((Pj.entry P.fl.length X).st.map V.int ++ [.int X]))) := (kk9.trans (Kp.put (C := fun c => C6 a1 a2 a3 a4 a5 a6 c ∨ c = e1 ∨ c = s1) (.inr (.inr rfl)))).trans (Kp.put (C := fun c => C6 a1 a2 a3 a4 a5 a6 c ∨ c = e1 ∨ c = s1) (.inl (.inr (.inr (.inr (.inr (.inr rfl)))))))
           generalize upd (upd H10 s1 (.lst ((Pj.sd.getD P.fl.length []).map V.int ++ [.int (((Pj.entry P.fl.length X).st.map V.int).length : Nat)]))) a6 (.lst ((Pj.entry P.fl.length X).st.map V.int ++ [.int X])) = Hn at cn kkn ⊢)
          rotate_left
          (have cn := c9
           have noB : ¬ r.1 = "both" := fun z => hw2 ((strq _ _).trans (decide_eq_true z))
           have eP : Pj.entry P.fl.length X = Pj.first r.1 P.fl.length X := by unfold PM.first; rw [if_neg noB]
           rw [eP] at cn
           have kkn := kk9)
          rotate_left
          all_goals
            generalize Pj.first r.1 P.fl.length X = Pn at cn hx2 kx2 bnd kpl eqj
            have Sn := base (wide kkn)
            have htpn := (wide kkn) _ _ htp tpC
            refine ⟨_, rfl, p, dx, _, rfl, cn.pl.ob, rfl, _, rfl, _, rfl, _, rfl, by show 1 ≤ sizeLine; decide, fun t3 n3 => ?_⟩
            refine cat_path (SqT.of (Same.new n3 _ _ htpn)) upd_same (by rw [List.length_map]; omega) (fun H12 tq S12 htq hnew => ?_)
            have eq2 : ns.map V.int ++ [V.int (j : Nat)] = (ns ++ [(j : Int)]).map V.int := by simp
            rw [eq2] at hnew
            have St := (Same.new (o := .tup [.int (j : Nat)]) n3).trans S12
            have cq := cn.same St
            have kkq := kkn.trans (Kp.of (C := fun c => C6 a1 a2 a3 a4 a5 a6 c ∨ c = e1 ∨ c = s1) St)
            refine ⟨_, rfl, _, rfl, b, _, _, .str r.1, rfl, rfl, sameT (Sn.trans St) hb, at0, rfl, _, rfl, ?_⟩
            refine ite2 (fun hw3 => ⟨_, rfl, ?_⟩) (fun hw3 => ⟨_, rfl, ?_⟩)
            (have eL : (if r.1 = "loop" then bh else ex) = bh := if_pos (of_decide_eq_true ((strq _ _).symm.trans hw3))
             rw [eL] at bnd kpl eqj)
            rotate_left
            (have eL : (if r.1 = "loop" then bh else ex) = ex := if_neg fun z => hw3 ((strq _ _).trans (decide_eq_true z))
             rw [eL] at bnd kpl eqj)
            rotate_left
            all_goals
              refine ⟨p, c', tq, ev, _, H0, l, cs', dx, a1, a2, a3, a4, a5, a6, _, _, _, _, Pn, ns ++ [(j : Int)], rfl, cq, ⟨hx2.1, by rw [hx2.2.1]; omega, by omega⟩, hc, hcs, Sn.trans St, sep, sl2, hnew.1, by rw [List.length_append, List.length_singleton]; omega, fun H13 laid => ?_⟩
              obtain ⟨k13, F3, pa3, ce3, cs3, c13, nw3⟩ := laid
              have nw4 : ∀ x ∈ ce3 ++ cs3, H x = none := fun x hx => by
                have n12 := nw3 x hx
                cases q : H x with
                | none => rfl
                | some o =>
                  have := (wide kkq) x o q (cq.pl.new n12)
                  rw [n12] at this
                  cases this
              have kp1 := kpl P.fl.length (by rw [hx2.2.1]; omega)
              have fl3 := congrArg List.length bnd.f
              rw [List.length_append, flatL_len, hx2.2.1] at fl3
              have t2 := bnd.t2
              refine ⟨F2 ++ F3, pa2 ++ pa3, ce2 ++ ce3, cs2 ++ cs3, _, _, _, _, _, rfl, kkq.trans (k13.mono fun z hz => .inl hz), by simpa [List.append_assoc] using c13, bnd.ok, eqj, by omega, by omega, by omega, by rw [kp1.1]; omega, by rw [kp1.2]; omega, new_app nwj nw4⟩
      · obtain ⟨F2, pa2, ce2, cs2, Pj, y6, y7, y8, y9, rfl, kk, cj, okj, eqj, l1, lf, lt, le, lsd, nwj⟩ := q
        have en : (kids r.2).drop ls.length = [] := List.drop_eq_nil_of_le (by rw [hls.len]; exact Nat.le_refl _)
        rw [en] at eqj
        have eqj : Pj = FIN := eqj
        subst eqj
        refine k H' ⟨wide kk, V.ref b :: F2, tp :: pa2, e1 :: ce2, s1 :: cs2, by simpa [List.append_assoc] using cj, fun x hx => ?_⟩
        rcases List.mem_append.mp hx with h | h <;> rcases List.mem_cons.mp h with h | h
        · rw [h]; exact He1
        · exact nwj x (List.mem_append_left _ h)
        · rw [h]; exact Hs1
        · exact nwj x (List.mem_append_right _ h)
end
end OR

set_option Elab.async false
set_option maxRecDepth 100000
set_option maxHeartbeats 8000000
set_option linter.all false
namespace OR
open PySem PySem.Spec PyProof.Rows L2 TS2
section
variable {P : Program} {w : World} {K : PySem.W.Frag} {mg : Str → Option Value} {base : Heap}
theorem ok_lay_list {k0 k1 d : Nat} {f : Addr} {fd : FuncData} (F0 : FnP K "lay_list" "Plan.lay_list" s_Plan_lay_list f fd) (T0 : Tx w K mg) (h1 : k1 ≤ k0) (G_size_of : Def P w K mg base CX0 k1 "size_of" p_size_of (spSize K (d + 1)))
    (M_lay_row : MDef P w K mg base CX0 k0 (He.ga K "Plan") "lay_row" p_Plan_lay_row (spLayRow K d)) : FnOk P w K mg base CX0 (k0 + 1) f fd p_Plan_lay_list (spLayList K (d + 1)) := by
  have T := T0
  refine F0.ok sc_Plan_lay_list (fun vs H Q E h => ?_) (fun cdv A outer s H vs Q E hr h => ?_)
  · obtain ⟨p, ra, tp, e, ex, _, _, _, _, _, _, _, _, _, _, _, _, _, _, _, _, rfl, _⟩ := h
    rfl
  · obtain ⟨p, ra, tp, e, ex, H0, rows, xs, dx, a1, a2, a3, a4, a5, a6, F, pa, ce, cs, P, ns, rfl, c, ⟨ok, lF, lT⟩, hra, hp, S0, sep, sh, htp, fewp, k⟩ := h
    have base : ∀ {H' : Hp}, Kp (C6 a1 a2 a3 a4 a5 a6) H H' → Same H0 H' := fun k => Kp.base S0 k sep
    have tpC : ¬ C6 a1 a2 a3 a4 a5 a6 tp := c.pl.noTup htp
    have lx : xs.length = rows.length := hp.len.symm
    refine ⟨_, PSs.nox (pss_one (ps_for PassesOwn.never rfl (pi_enum (by rfl) T.b_enumerate (pa_cons (pv 1) pa_nil)) (pg_tup (by rfl) (pgs_cons (pg_name (i := 5) sc_Plan_lay_list.nd rfl (.inl rfl)) (pgs_cons (pg_name (i := 6) sc_Plan_lay_list.nd rfl (.inl rfl)) pgs_nil))) (pss_cons (ps_set (i := 7) sc_Plan_lay_list.nd rfl (.inl rfl) (pv 3))
      (pss_cons (ps_if (pt_cmpR op_lt (pe_op op_add (pv 5) pe_int) (pe_callB call_len_seq (by rfl) T.b_len PySem.boot_len (pa_cons (pv 1) pa_nil)) (nomark _)) (pss_one (ps_set (i := 7) sc_Plan_lay_list.nd rfl (.inl rfl) (pe_op op_add (pe_callB call_len_seq (by rfl) T.b_len PySem.boot_len (pa_cons (pe_fld (pv 0) rfl) pa_nil)) (pe_fn G_size_of (hr.mono (by omega)) (by rfl) pass0 (pa_cons (pv 6) pa_nil))))) pss_nil)
      (pss_one (ps_expr (pe_mth M_lay_row (hr.mono (by omega)) pass0 (pv 0) (pa_cons (pv 6) (pa_cons (pe_op op_catA (pv 2) (pe_tup (pa_cons (pv 5) pa_nil))) (pa_cons (pv 7) (pa_cons (pv 4) pa_nil))))))))))), ?_⟩
    refine ⟨_, rfl, ra, _, rfl, SqL.of (S0 _ _ hra), ?_⟩
    generalize hFIN : layL d rows ns e ex P = FIN at k
    refine for_it (walk_enum (K := K) (a := ra) (xs := xs)) (fun i σ' H' => ∃ (F2 : List V) (pa2 ce2 cs2 : List Addr) (Pi : PM) (y5 y6 y7 : Option V), σ' = [some (.ref p), some (.ref ra), some (.ref tp), some (.int e), some (.int ex), y5, y6, y7] ∧
        Kp (C6 a1 a2 a3 a4 a5 a6) H H' ∧ PAtx K H0 H' p dx a1 a2 a3 a4 a5 a6 (F ++ F2) (pa ++ pa2) (ce ++ ce2) (cs ++ cs2) Pi ∧ Pi.Ok ∧ layS (layR d) (rsz d) rows.length ns e ex (rows.drop i) i Pi = FIN ∧
        Pi.fl.length + ((rows.drop i).map (rsz d)).sum ≤ 3000 ∧ Pi.st.length + 1000 * ((rows.drop i).map (rsz d)).sum ≤ 4000000 ∧ ∀ c ∈ ce2 ++ cs2, H c = none)
      ⟨[], [], [], [], P, _, _, _, rfl, Kp.refl _, by simpa using c, ok, hFIN, by rw [List.drop_zero]; exact lF, by rw [List.drop_zero]; exact lT, fun c hc => by cases hc⟩ (fun i σ' H' _ q => ?_) (fun i x σ' H7 H8 hi q y => ?_) (fun σ' H' q => ?_)
    · obtain ⟨_, _, _, _, _, _, _, _, _, kp, _⟩ := q
      exact SqL.of (base kp _ _ hra)
    · obtain ⟨F2, pa2, ce2, cs2, Pi, y5, y6, y7, rfl, kp, ci, oki, eqi, lf, lt, nwi⟩ := q
      obtain ⟨T2, num2, rv, rfl, nT2, rfl, hnum2, hrv⟩ := y
      cases Option.some.inj hnum2
      have hrv : xs[i]? = some rv := hrv
      obtain ⟨row, hrow, hrow2⟩ := hp.other hrv
      have shr := sh row (List.mem_of_getElem? hrow)
      rw [sum_drop _ hrow] at lf lt
      have ilt : i < rows.length := (List.getElem?_eq_some_iff.mp hrow).1
      have ed : rows.drop i = row :: rows.drop (i + 1) := by
        rw [List.drop_eq_getElem_cons ilt]
        congr 1
        rw [List.getElem?_eq_getElem ilt] at hrow
        exact Option.some.inj hrow
      rw [ed] at eqi
      have eqi : layS (layR d) (rsz d) rows.length ns e ex (rows.drop (i + 1)) (i + 1) (layR d row (ns ++ [(i : Int)]) (if i + 1 < rows.length then ((Pi.fl.length + rsz d row : Nat) : Int) else e) ex Pi) = FIN := eqi
      have S8 : Same H7 (upd H7 T2 (.tup [.int (i : Nat), rv])) := Same.new nT2
      refine ⟨T2, _, rfl, SqT.of upd_same, rfl, _, _, rfl, _, _, rfl, rfl, ?_⟩
      have kp8 := kp.trans (Kp.of (C := C6 a1 a2 a3 a4 a5 a6) S8)
      have c8 := ci.same S8
      generalize upd H7 T2 (.tup [.int (i : Nat), rv]) = H9 at kp8 c8 ⊢
      cases d with
      | zero => exact nomatch row
      | succ g =>
        have lFF : (F ++ F2).length = Pi.fl.length := c8.fl.len.symm
        refine ⟨_, rfl, ?_⟩
        refine ⟨_, rfl, _, _, rfl, rfl, _, rfl, ra, xs, rfl, .inl (SqL.of (base kp8 _ _ hra)), _, _, rfl, rfl, _, rfl, ?_⟩
        rw [lx]
        refine ite2 (fun hb => ?_) (fun hb => ?_)
        (have hlt : i + 1 < rows.length := by have := of_decide_eq_true hb; omega
         rw [if_pos hlt] at eqi
         have bnd := grew_layR (g + 1) row shr (ns ++ [(i : Int)]) ((Pi.fl.length + rsz (g + 1) row : Nat) : Int) ex Pi oki
         refine ⟨_, rfl, p, _, dx, _, .ref a1, rfl, c8.pl.ob, T.c_Plan, T.n_Plan_flat, rfl, a1, _, rfl, .inl (SqL.of c8.pl.h1), ?_⟩
         refine ⟨_, rfl, rv, H0, row, rfl, base kp8, hrow2, shr, by omega, fun H10 S10 => ?_⟩
         refine ⟨_, _, rfl, rfl, ?_⟩
         rw [lFF]
         have kpn := kp8.trans (Kp.of (C := C6 a1 a2 a3 a4 a5 a6) S10)
         have cn := c8.same S10
         have hP := cn.pl.ob
         have e9 : ((Pi.fl.length : Int) + (rsz (g + 1) row : Nat)) = ((Pi.fl.length + rsz (g + 1) row : Nat) : Int) := by rw [Int.natCast_add]
         dsimp only [gName]
         rw [e9])
        rotate_left
        (have hlt : ¬ i + 1 < rows.length := fun z => hb (decide_eq_true (by omega))
         rw [if_neg hlt] at eqi
         have bnd := grew_layR (g + 1) row shr (ns ++ [(i : Int)]) e ex Pi oki
         have kpn := kp8
         have cn := c8)
        rotate_left
        all_goals
          have htpn := kpn _ _ htp tpC
          refine ⟨_, rfl, p, dx, _, rfl, cn.pl.ob, rfl, _, rfl, _, rfl, _, rfl, by show 1 ≤ sizeLine; decide, fun t3 n3 => ?_⟩
          refine cat_path (SqT.of (Same.new n3 _ _ htpn)) upd_same (by rw [List.length_map]; omega) (fun H12 tq S12 htq hnew => ?_)
          have eq2 : ns.map V.int ++ [V.int (i : Nat)] = (ns ++ [(i : Int)]).map V.int := by simp
          rw [eq2] at hnew
          have St := (Same.new (o := .tup [.int (i : Nat)]) n3).trans S12
          have cq := cn.same St
          have kpq := kpn.trans (Kp.of (C := C6 a1 a2 a3 a4 a5 a6) St)
          refine ⟨_, rfl, _, rfl, ?_⟩
          refine ⟨p, tq, rv, _, _, H0, row, dx, a1, a2, a3, a4, a5, a6, _, _, _, _, Pi, ns ++ [(i : Int)], rfl, cq, ⟨oki, by omega, by omega⟩, hrow2, base kpq, sep, shr, hnew.1, by rw [List.length_append, List.length_singleton]; omega, fun H13 laid => ?_⟩
          obtain ⟨k13, F3, pa3, ce3, cs3, c13, nw3⟩ := laid
          have nw4 : ∀ x ∈ ce3 ++ cs3, H x = none := fun x hx => by
            have n12 := nw3 x hx
            cases q : H x with
            | none => rfl
            | some o =>
              have := kpq x o q (cq.pl.new n12)
              rw [n12] at this
              cases this
          have fl3 := congrArg List.length bnd.f
          rw [List.length_append, flat_len] at fl3
          have t2 := bnd.t2
          refine ⟨F2 ++ F3, pa2 ++ pa3, ce2 ++ ce3, cs2 ++ cs3, _, _, _, _, rfl, kpq.trans k13, by simpa [List.append_assoc] using c13, bnd.ok, eqi, by omega, by omega, new_app nwi nw4⟩
    · obtain ⟨F2, pa2, ce2, cs2, Pi, y5, y6, y7, rfl, kp, ci, oki, eqi, lf, lt, nwi⟩ := q
      have en : rows.drop xs.length = [] := List.drop_eq_nil_of_le (by omega)
      rw [en] at eqi
      have eqi : Pi = FIN := eqi
      subst eqi
      exact k H' ⟨kp, F2, pa2, ce2, cs2, ci, nwi⟩
end
end OR

set_option Elab.async false
set_option maxRecDepth 100000
set_option maxHeartbeats 8000000
set_option linter.all false
namespace OR
open PySem PySem.Spec PyProof.Rows L2 TS2
def Sv (H H' : Hp) (p : Addr) : Prop := ∀ b o, H b = some o → b ≠ p → H' b = some o
theorem Sv.same {H H' H'' : Hp} {p : Addr} (h : Sv H H' p) (s : Same H' H'') : Sv H H'' p := fun b o hb nb => s _ _ (h b o hb nb)
theorem Sv.own {H H' : Hp} {p : Addr} {u : HO} (h : Sv H H' p) : Sv H (upd H' p u) p := fun b o hb nb => by rw [upd_ne nb]; exact h b o hb nb
theorem Sv.trans {H H' H'' : Hp} {p : Addr} (h : Sv H H' p) (s : Sv H' H'' p) : Sv H H'' p := fun b o hb nb => s _ _ (h b o hb nb) nb
def numStep (acc : List (List Key × V)) (x : List Int × Nat) : List (List Key × V) := putK acc (x.1.map Sum.inl) (.int (x.2 : Nat))
/-- the numbers of the paths -/
def numsOf (pl : List (List Int)) : List (List Key × V) := (pl.zipIdx).foldl numStep []
theorem nums_len (l : List (List Int × Nat)) : ∀ acc, (l.foldl numStep acc).length ≤ acc.length + l.length := by
  induction l with
  | nil => intro acc; simp
  | cons x l ih =>
    intro acc
    have h1 := ih (numStep acc x)
    have h2 := length_putK acc (x.1.map Sum.inl : List Key) (V.int (x.2 : Nat))
    rw [List.foldl_cons, List.length_cons]
    unfold numStep at h1 ⊢
    omega
def planF7 (a1 a2 a3 a4 a5 a6 a7 : Addr) : List (Str × V) := planF a1 a2 a3 a4 a5 a6 ++ [(("numbers" : Str), V.ref a7)]
/-- a plan stands at p -/
structure PlanAt (K : PySem.W.Frag) (H0 H : Hp) (p dx a1 a2 a3 a4 a5 a6 a7 : Addr) (F : List V) (pa ce cs : List Addr) (P : PM) : Prop where
  ob : H p = some (.ins (He.ga K "Plan") dx (planF7 a1 a2 a3 a4 a5 a6 a7))
  h1 : H a1 = some (.lst F)
  h2 : H a2 = some (.lst (pa.map V.ref))
  h3 : H a3 = some (.lst (P.bh.map V.int))
  h4 : H a4 = some (.lst (ce.map V.ref))
  h5 : H a5 = some (.lst (cs.map V.ref))
  h6 : H a6 = some (.lst (P.st.map V.int))
  h7 : H a7 = some (.dT (numsOf P.pl))
  fl : All2 (AnyAt K H0) P.fl F
  pt : PathsAt H P.pl pa
  en : CellsAt H P.en ce
  sd : CellsAt H P.sd cs
def PlanOk (K : PySem.W.Frag) (H0 H : Hp) (p dx : Addr) (P : PM) : Prop := ∃ a1 a2 a3 a4 a5 a6 a7 F pa ce cs, PlanAt K H0 H p dx a1 a2 a3 a4 a5 a6 a7 F pa ce cs P
theorem PlanAt.same {K : PySem.W.Frag} {H0 H H' : Hp} {p dx a1 a2 a3 a4 a5 a6 a7 : Addr} {F : List V} {pa ce cs : List Addr} {P : PM} (c : PlanAt K H0 H p dx a1 a2 a3 a4 a5 a6 a7 F pa ce cs P) (s : Same H H') : PlanAt K H0 H' p dx a1 a2 a3 a4 a5 a6 a7 F pa ce cs P :=
  ⟨s _ _ c.ob, s _ _ c.h1, s _ _ c.h2, s _ _ c.h3, s _ _ c.h4, s _ _ c.h5, s _ _ c.h6, s _ _ c.h7, c.fl, c.pt.imp fun _ _ _ e => s _ _ e, c.en.imp fun _ _ _ e => s _ _ e, c.sd.imp fun _ _ _ e => s _ _ e⟩
theorem PlanOk.same {K : PySem.W.Frag} {H0 H H' : Hp} {p dx : Addr} {P : PM} (c : PlanOk K H0 H p dx P) (s : Same H H') : PlanOk K H0 H' p dx P := by
  obtain ⟨a1, a2, a3, a4, a5, a6, a7, F, pa, ce, cs, c⟩ := c
  exact ⟨a1, a2, a3, a4, a5, a6, a7, F, pa, ce, cs, c.same s⟩
/-- what is new, the tuples, and p -/
def Own (H : Hp) (p b : Addr) : Prop := NL H b ∨ b = p
def planOf (d : Nat) (rows : List (Row d)) : PM := layL d rows [] (-2) (-2) ⟨[], [], [], [], [], [if rows.length = 0 then -2 else 0]⟩
def spPlanInit (K : PySem.W.Frag) (d : Nat) : Sp := fun vs H Q _ => ∃ (p dx ra : Addr) (H0 : Hp) (rows : List (Row d)) (xs : List V), vs = [.ref p, .ref ra] ∧ H p = some (.ins (He.ga K "Plan") dx []) ∧ H0 p = none ∧ H0 ra = some (.lst xs) ∧ All2 (RowAt K H0 d) rows xs ∧ Same H0 H ∧ (∀ r ∈ rows, Shape d r) ∧ d ≤ 40 ∧ lsz d rows ≤ 3000 ∧
  ∀ (H' : Hp), Sv H H' p → PlanOk K H0 (res (Own H p) H') p dx (planOf d rows) → Q .non H'
section
variable {P : Program} {w : World} {K : PySem.W.Frag} {mg : Str → Option Value} {base : Heap}
theorem ok_plan {k0 d : Nat} {f : Addr} {fd : FuncData} (F0 : FnP K "__init__" "Plan.__init__" s_Plan___init__ f fd) (T0 : Tx w K mg) (M_lay_list : MDef P w K mg base CX0 k0 (He.ga K "Plan") "lay_list" p_Plan_lay_list (spLayList K (d + 1))) :
    FnOk P w K mg base CX0 (k0 + 1) f fd p_Plan___init__ (spPlanInit K d) := by
  have T := T0
  refine F0.ok sc_Plan___init__ (fun vs H Q E h => ?_) (fun cdv A outer s H vs Q E hr h => ?_)
  · obtain ⟨p, dx, ra, _, _, _, rfl, _⟩ := h
    rfl
  · obtain ⟨p, dx, ra, H0, rows, xs, rfl, hp, H0p, hra0, hal, S0, sh, fd, few, k⟩ := h
    have hu := hu_of hr
    obtain ⟨tF, mFINISH⟩ := T.m_FINISH
    have hra := S0 _ _ hra0
    have rp : ra ≠ p := ne_of hra hp (by intro z; cases z)
    refine ⟨_, PSs.nox (pss_cons (ps_fld (pv 0) (pe_lst pa_nil) rfl)
      (pss_cons (ps_fld (pv 0) (pe_lst pa_nil) rfl)
      (pss_cons (ps_fld (pv 0) (pe_lst pa_nil) rfl)
      (pss_cons (ps_fld (pv 0) (pe_lst pa_nil) rfl)
      (pss_cons (ps_fld (pv 0) (pe_lst pa_nil) rfl)
      (pss_cons (ps_fld (pv 0) (pe_lst (pa_cons (pe_ifExp (pt_cmpR op_eq (pe_callB call_len_seq (by rfl) T.b_len PySem.boot_len (pa_cons (pv 1) pa_nil)) pe_int (nomark _)) (pe_glob (by rfl) mFINISH (show RelV (.int (-2)) _ from ⟨_, rfl⟩)) pe_int) pa_nil)) rfl)
      (pss_cons (ps_expr (pe_mth M_lay_list (hr.mono (by omega)) pass0 (pv 0) (pa_cons (pv 1) (pa_cons (pe_tup pa_nil) (pa_cons (pe_glob (by rfl) mFINISH (show RelV (.int (-2)) _ from ⟨_, rfl⟩)) (pa_cons (pe_glob (by rfl) mFINISH (show RelV (.int (-2)) _ from ⟨_, rfl⟩)) pa_nil))))))
      (pss_one (ps_fld (pv 0) (pe_dcT hu (by rfl) sc_Plan___init__.nd (own := [("number", 2), ("path", 3)]) (g := (gTup K 2 (gCons (gName 2) (gCons (gName 3) gNil)))) (pi_enum (by rfl) T.b_enumerate (pa_cons (pe_fld (pv 0) rfl) pa_nil)) (blkOk_by (N := n_Plan___init__) (sc := defScope s_Plan___init__) (by decide +kernel)) (fun _ _ _ _ _ => (pg_tup (by rfl) (pgs_cons (pg_name (i := 2) sc_Plan___init__.nd rfl (.inl rfl)) (pgs_cons (pg_name (i := 3) sc_Plan___init__.nd rfl (.inl rfl)) pgs_nil)))) (fun _ _ _ _ _ => (pv 3)) (fun _ _ _ _ _ => (pv 2))) rfl))))))))), ?_⟩
    have sv0 : Sv H H p := fun b o hb _ => hb
    refine ⟨by show 0 ≤ sizeLine; decide, fun a1 n1 => ?_⟩
    have p1 : p ≠ a1 := ne_of_none hp n1
    refine ⟨_, rfl, p, _, dx, _, rfl, (by rw [upd_ne p1]; exact hp), T.c_Plan, T.n_Plan_flat, (by show 0 < 1000; decide), ?_⟩
    have sv1 : Sv H (upd (upd H a1 (.lst [])) p (.ins (He.ga K "Plan") dx (putF "flat" (.ref a1) ([])))) p := (sv0.same (Same.new n1)).own
    have st1 : Sv H (upd (upd H a1 (.lst [])) p (.ins (He.ga K "Plan") dx (putF "flat" (.ref a1) ([])))) p := Sv.own (fun b o hb _ => Same.new n1 b o hb)
    have L1 : upd (upd H a1 (.lst [])) p (.ins (He.ga K "Plan") dx (putF "flat" (.ref a1) ([]))) a1 = some (.lst []) := by rw [upd_ne p1.symm]; exact upd_same
    have hp1 : upd (upd H a1 (.lst [])) p (.ins (He.ga K "Plan") dx (putF "flat" (.ref a1) ([]))) p = some (.ins (He.ga K "Plan") dx (putF "flat" (.ref a1) ([]))) := upd_same
    generalize upd (upd H a1 (.lst [])) p (.ins (He.ga K "Plan") dx (putF "flat" (.ref a1) ([]))) = G1 at sv1 st1 L1 hp1 ⊢
    refine ⟨by show 0 ≤ sizeLine; decide, fun a2 n2 => ?_⟩
    have p2 : p ≠ a2 := ne_of_none hp1 n2
    refine ⟨_, rfl, p, _, dx, _, rfl, (by rw [upd_ne p2]; exact hp1), T.c_Plan, T.n_Plan_places, (by show 1 < 1000; decide), ?_⟩
    have sv2 : Sv H (upd (upd G1 a2 (.lst [])) p (.ins (He.ga K "Plan") dx (putF "places" (.ref a2) (putF "flat" (.ref a1) ([]))))) p := (sv1.same (Same.new n2)).own
    have st2 : Sv G1 (upd (upd G1 a2 (.lst [])) p (.ins (He.ga K "Plan") dx (putF "places" (.ref a2) (putF "flat" (.ref a1) ([]))))) p := Sv.own (fun b o hb _ => Same.new n2 b o hb)
    have L2 : upd (upd G1 a2 (.lst [])) p (.ins (He.ga K "Plan") dx (putF "places" (.ref a2) (putF "flat" (.ref a1) ([])))) a2 = some (.lst []) := by rw [upd_ne p2.symm]; exact upd_same
    have hp2 : upd (upd G1 a2 (.lst [])) p (.ins (He.ga K "Plan") dx (putF "places" (.ref a2) (putF "flat" (.ref a1) ([])))) p = some (.ins (He.ga K "Plan") dx (putF "places" (.ref a2) (putF "flat" (.ref a1) ([])))) := upd_same
    generalize upd (upd G1 a2 (.lst [])) p (.ins (He.ga K "Plan") dx (putF "places" (.ref a2) (putF "flat" (.ref a1) ([])))) = G2 at sv2 st2 L2 hp2 ⊢
    refine ⟨by show 0 ≤ sizeLine; decide, fun a3 n3 => ?_⟩
    have p3 : p ≠ a3 := ne_of_none hp2 n3
    refine ⟨_, rfl, p, _, dx, _, rfl, (by rw [upd_ne p3]; exact hp2), T.c_Plan, T.n_Plan_behind, (by show 2 < 1000; decide), ?_⟩
    have sv3 : Sv H (upd (upd G2 a3 (.lst [])) p (.ins (He.ga K "Plan") dx (putF "behind" (.ref a3) (putF "places" (.ref a2) (putF "flat" (.ref a1) ([])))))) p := (sv2.same (Same.new n3)).own
    have st3 : Sv G2 (upd (upd G2 a3 (.lst [])) p (.ins (He.ga K "Plan") dx (putF "behind" (.ref a3) (putF "places" (.ref a2) (putF "flat" (.ref a1) ([])))))) p := Sv.own (fun b o hb _ => Same.new n3 b o hb)
    have L3 : upd (upd G2 a3 (.lst [])) p (.ins (He.ga K "Plan") dx (putF "behind" (.ref a3) (putF "places" (.ref a2) (putF "flat" (.ref a1) ([]))))) a3 = some (.lst []) := by rw [upd_ne p3.symm]; exact upd_same
    have hp3 : upd (upd G2 a3 (.lst [])) p (.ins (He.ga K "Plan") dx (putF "behind" (.ref a3) (putF "places" (.ref a2) (putF "flat" (.ref a1) ([]))))) p = some (.ins (He.ga K "Plan") dx (putF "behind" (.ref a3) (putF "places" (.ref a2) (putF "flat" (.ref a1) ([]))))) := upd_same
    generalize upd (upd G2 a3 (.lst [])) p (.ins (He.ga K "Plan") dx (putF "behind" (.ref a3) (putF "places" (.ref a2) (putF "flat" (.ref a1) ([]))))) = G3 at sv3 st3 L3 hp3 ⊢
    refine ⟨by show 0 ≤ sizeLine; decide, fun a4 n4 => ?_⟩
    have p4 : p ≠ a4 := ne_of_none hp3 n4
    refine ⟨_, rfl, p, _, dx, _, rfl, (by rw [upd_ne p4]; exact hp3), T.c_Plan, T.n_Plan_entries, (by show 3 < 1000; decide), ?_⟩
    have sv4 : Sv H (upd (upd G3 a4 (.lst [])) p (.ins (He.ga K "Plan") dx (putF "entries" (.ref a4) (putF "behind" (.ref a3) (putF "places" (.ref a2) (putF "flat" (.ref a1) ([]))))))) p := (sv3.same (Same.new n4)).own
    have st4 : Sv G3 (upd (upd G3 a4 (.lst [])) p (.ins (He.ga K "Plan") dx (putF "entries" (.ref a4) (putF "behind" (.ref a3) (putF "places" (.ref a2) (putF "flat" (.ref a1) ([]))))))) p := Sv.own (fun b o hb _ => Same.new n4 b o hb)
    have L4 : upd (upd G3 a4 (.lst [])) p (.ins (He.ga K "Plan") dx (putF "entries" (.ref a4) (putF "behind" (.ref a3) (putF "places" (.ref a2) (putF "flat" (.ref a1) ([])))))) a4 = some (.lst []) := by rw [upd_ne p4.symm]; exact upd_same
    have hp4 : upd (upd G3 a4 (.lst [])) p (.ins (He.ga K "Plan") dx (putF "entries" (.ref a4) (putF "behind" (.ref a3) (putF "places" (.ref a2) (putF "flat" (.ref a1) ([])))))) p = some (.ins (He.ga K "Plan") dx (putF "entries" (.ref a4) (putF "behind" (.ref a3) (putF "places" (.ref a2) (putF "flat" (.ref a1) ([])))))) := upd_same
    generalize upd (upd G3 a4 (.lst [])) p (.ins (He.ga K "Plan") dx (putF "entries" (.ref a4) (putF "behind" (.ref a3) (putF "places" (.ref a2) (putF "flat" (.ref a1) ([])))))) = G4 at sv4 st4 L4 hp4 ⊢
    refine ⟨by show 0 ≤ sizeLine; decide, fun a5 n5 => ?_⟩
    have p5 : p ≠ a5 := ne_of_none hp4 n5
    refine ⟨_, rfl, p, _, dx, _, rfl, (by rw [upd_ne p5]; exact hp4), T.c_Plan, T.n_Plan_sides, (by show 4 < 1000; decide), ?_⟩
    have sv5 : Sv H (upd (upd G4 a5 (.lst [])) p (.ins (He.ga K "Plan") dx (putF "sides" (.ref a5) (putF "entries" (.ref a4) (putF "behind" (.ref a3) (putF "places" (.ref a2) (putF "flat" (.ref a1) ([])))))))) p := (sv4.same (Same.new n5)).own
    have st5 : Sv G4 (upd (upd G4 a5 (.lst [])) p (.ins (He.ga K "Plan") dx (putF "sides" (.ref a5) (putF "entries" (.ref a4) (putF "behind" (.ref a3) (putF "places" (.ref a2) (putF "flat" (.ref a1) ([])))))))) p := Sv.own (fun b o hb _ => Same.new n5 b o hb)
    have L5 : upd (upd G4 a5 (.lst [])) p (.ins (He.ga K "Plan") dx (putF "sides" (.ref a5) (putF "entries" (.ref a4) (putF "behind" (.ref a3) (putF "places" (.ref a2) (putF "flat" (.ref a1) ([]))))))) a5 = some (.lst []) := by rw [upd_ne p5.symm]; exact upd_same
    have hp5 : upd (upd G4 a5 (.lst [])) p (.ins (He.ga K "Plan") dx (putF "sides" (.ref a5) (putF "entries" (.ref a4) (putF "behind" (.ref a3) (putF "places" (.ref a2) (putF "flat" (.ref a1) ([]))))))) p = some (.ins (He.ga K "Plan") dx (putF "sides" (.ref a5) (putF "entries" (.ref a4) (putF "behind" (.ref a3) (putF "places" (.ref a2) (putF "flat" (.ref a1) ([]))))))) := upd_same
    generalize upd (upd G4 a5 (.lst [])) p (.ins (He.ga K "Plan") dx (putF "sides" (.ref a5) (putF "entries" (.ref a4) (putF "behind" (.ref a3) (putF "places" (.ref a2) (putF "flat" (.ref a1) ([]))))))) = G5 at sv5 st5 L5 hp5 ⊢
    have d12 : a1 ≠ a2 := ne_of_none L1 n2
    have d13 : a1 ≠ a3 := ne_of_none (st2 _ _ L1 p1.symm) n3
    have d23 : a2 ≠ a3 := ne_of_none L2 n3
    have d14 : a1 ≠ a4 := ne_of_none (st3 _ _ (st2 _ _ L1 p1.symm) p1.symm) n4
    have d24 : a2 ≠ a4 := ne_of_none (st3 _ _ L2 p2.symm) n4
    have d34 : a3 ≠ a4 := ne_of_none L3 n4
    have d15 : a1 ≠ a5 := ne_of_none (st4 _ _ (st3 _ _ (st2 _ _ L1 p1.symm) p1.symm) p1.symm) n5
    have d25 : a2 ≠ a5 := ne_of_none (st4 _ _ (st3 _ _ L2 p2.symm) p2.symm) n5
    have d35 : a3 ≠ a5 := ne_of_none (st4 _ _ L3 p3.symm) n5
    have d45 : a4 ≠ a5 := ne_of_none L4 n5
    refine ⟨_, rfl, ra, _, rfl, .inl (SqL.of (sv5 _ _ hra rp)), rfl, _, rfl, ?_⟩
    have lx : xs.length = rows.length := hal.len.symm
    rw [lx]
    refine ite2 (fun hb => ?_) (fun hb => ?_)
    all_goals
      refine ⟨by show 1 ≤ sizeLine; decide, fun a6 n6 => ?_⟩
      have p6 : p ≠ a6 := ne_of_none hp5 n6
      refine ⟨_, rfl, p, _, dx, _, rfl, (by rw [upd_ne p6]; exact hp5), T.c_Plan, T.n_Plan_starts, (by show 5 < 1000; decide), ?_⟩
      generalize eT : ([V.int _] : List V) = T6
      have eT6 : T6 = ([if rows.length = 0 then (-2 : Int) else 0]).map V.int := by
        rw [← eT]
        first
          | (have z : rows.length = 0 := by have := V.int.inj (of_decide_eq_true hb); omega
             rw [if_pos z]; rfl)
          | (have z : ¬ rows.length = 0 := fun z => hb (decide_eq_true (by rw [z]; rfl))
             rw [if_neg z]; rfl)
      have sv6 : Sv H (upd (upd G5 a6 (.lst T6)) p (.ins (He.ga K "Plan") dx (putF "starts" (.ref a6) (putF "sides" (.ref a5) (putF "entries" (.ref a4) (putF "behind" (.ref a3) (putF "places" (.ref a2) (putF "flat" (.ref a1) ([]))))))))) p := (sv5.same (Same.new n6)).own
      have st6 : Sv G5 (upd (upd G5 a6 (.lst T6)) p (.ins (He.ga K "Plan") dx (putF "starts" (.ref a6) (putF "sides" (.ref a5) (putF "entries" (.ref a4) (putF "behind" (.ref a3) (putF "places" (.ref a2) (putF "flat" (.ref a1) ([]))))))))) p := Sv.own (fun b o hb _ => Same.new n6 b o hb)
      have L6 : upd (upd G5 a6 (.lst T6)) p (.ins (He.ga K "Plan") dx (putF "starts" (.ref a6) (putF "sides" (.ref a5) (putF "entries" (.ref a4) (putF "behind" (.ref a3) (putF "places" (.ref a2) (putF "flat" (.ref a1) ([])))))))) a6 = some (.lst T6) := by rw [upd_ne p6.symm]; exact upd_same
      have hp6 : upd (upd G5 a6 (.lst T6)) p (.ins (He.ga K "Plan") dx (putF "starts" (.ref a6) (putF "sides" (.ref a5) (putF "entries" (.ref a4) (putF "behind" (.ref a3) (putF "places" (.ref a2) (putF "flat" (.ref a1) ([])))))))) p = some (.ins (He.ga K "Plan") dx (planF a1 a2 a3 a4 a5 a6)) := upd_same
      generalize upd (upd G5 a6 (.lst T6)) p (.ins (He.ga K "Plan") dx (putF "starts" (.ref a6) (putF "sides" (.ref a5) (putF "entries" (.ref a4) (putF "behind" (.ref a3) (putF "places" (.ref a2) (putF "flat" (.ref a1) ([])))))))) = G6 at sv6 st6 L6 hp6 ⊢
      have d16 : a1 ≠ a6 := ne_of_none (st5 _ _ (st4 _ _ (st3 _ _ (st2 _ _ L1 p1.symm) p1.symm) p1.symm) p1.symm) n6
      have d26 : a2 ≠ a6 := ne_of_none (st5 _ _ (st4 _ _ (st3 _ _ L2 p2.symm) p2.symm) p2.symm) n6
      have d36 : a3 ≠ a6 := ne_of_none (st5 _ _ (st4 _ _ L3 p3.symm) p3.symm) n6
      have d46 : a4 ≠ a6 := ne_of_none (st5 _ _ L4 p4.symm) n6
      have d56 : a5 ≠ a6 := ne_of_none L5 n6
      have pl : PL K G6 p dx a1 a2 a3 a4 a5 a6 [] [] [] [] [] T6 := ⟨hp6, st6 _ _ (st5 _ _ (st4 _ _ (st3 _ _ (st2 _ _ L1 p1.symm) p1.symm) p1.symm) p1.symm) p1.symm, st6 _ _ (st5 _ _ (st4 _ _ (st3 _ _ L2 p2.symm) p2.symm) p2.symm) p2.symm, st6 _ _ (st5 _ _ (st4 _ _ L3 p3.symm) p3.symm) p3.symm, st6 _ _ (st5 _ _ L4 p4.symm) p4.symm, st6 _ _ L5 p5.symm, L6, by simp [d12, d13, d14, d15, d16, d23, d24, d25, d26, d34, d35, d36, d45, d46, d56]⟩
      have free : ∀ {G : Hp} {a : Addr}, Sv H G p → G a = none → a ≠ p → H0 a = none := fun {G a} sv n np => by
        cases q : H0 a with
        | none => rfl
        | some o => rw [sv _ _ (S0 _ _ q) np] at n; cases n
      have sep : Sep H0 (C6 a1 a2 a3 a4 a5 a6) := by
        rintro c (rfl | rfl | rfl | rfl | rfl | rfl)
        · exact free sv0 n1 p1.symm
        · exact free sv1 n2 p2.symm
        · exact free sv2 n3 p3.symm
        · exact free sv3 n4 p4.symm
        · exact free sv4 n5 p5.symm
        · exact free sv5 n6 p6.symm
      have S06 : Same H0 G6 := fun b o e => sv6 b o (S0 b o e) (fun z => by rw [z, H0p] at e; cases e)
      refine ⟨_, rfl, p, dx, _, rfl, pl.ob, rfl, _, rfl, by show 0 ≤ sizeLine; decide, fun t nt => ?_⟩
      have St : Same G6 (upd G6 t (.tup [])) := Same.new nt
      have ht : upd G6 t (.tup []) t = some (.tup []) := upd_same
      generalize upd G6 t (.tup []) = G7 at St ht ⊢
      generalize hP0 : (⟨[], [], [], [], [], [if rows.length = 0 then (-2 : Int) else 0]⟩ : PM) = P0
      have st0 : P0.st = [if rows.length = 0 then (-2 : Int) else 0] := by rw [← hP0]
      have c0 : PAtx K H0 G6 p dx a1 a2 a3 a4 a5 a6 [] [] [] [] P0 := by
        refine ⟨?_, ?_, ?_, ?_, ?_, List.nodup_nil, fun c hc => by cases hc⟩
        · rw [st0, ← eT6, ← hP0]
          exact pl
        · rw [← hP0]; exact .nil
        · rw [← hP0]; exact .nil
        · rw [← hP0]; exact .nil
        · rw [← hP0]; exact .nil
      have ok0 : P0.Ok := by rw [← hP0]; exact ⟨rfl, rfl, rfl, rfl⟩
      have fl0 : P0.fl.length = 0 := by rw [← hP0]; rfl
      have sl0 : P0.st.length = 1 := by rw [st0]; rfl
      refine ⟨p, ra, t, -2, -2, H0, rows, xs, dx, a1, a2, a3, a4, a5, a6, [], [], [], [], P0, [], rfl, c0.same St, ⟨ok0, by omega, by omega⟩, hra0, hal, S06.trans St, sep, sh, ht, by show 0 + 2 * d ≤ 90; omega, fun G8 laid => ?_⟩
      obtain ⟨k8, F3, pa3, ce3, cs3, c8, nw8⟩ := laid
      have freeH : ∀ {G : Hp} {a : Addr}, Sv H G p → G a = none → a ≠ p → H a = none := fun {G a} sv n np => by
        cases q : H a with
        | none => rfl
        | some o => rw [sv _ _ q np] at n; cases n
      have bnd := grew_layL d rows sh [] (-2) (-2) P0 ok0
      have efin : layL d rows [] (-2) (-2) P0 = planOf d rows := by rw [← hP0]; rfl
      rw [efin] at c8 bnd
      have lfl : (planOf d rows).pl.length = lsz d rows := by rw [bnd.ok.p, bnd.f, List.length_append, flatL_len]; omega
      generalize planOf d rows = PP at c8 bnd lfl k
      simp only [List.nil_append] at c8
      have lpa := c8.pt.len
      refine ⟨_, rfl, p, _, dx, _, .ref a2, rfl, c8.pl.ob, T.c_Plan, T.n_Plan_places, rfl, a2, _, rfl, SqL.of c8.pl.h2, fun D nD => ?_⟩
      have a2D : a2 ≠ D := ne_of_none c8.pl.h2 nD
      have pD : p ≠ D := ne_of_none c8.pl.ob nD
      refine out_it (walk_enum (K := K) (a := a2) (xs := pa3.map V.ref)) (fun i H' => Kp (· = D) (upd G8 D (.dT [])) H' ∧ H' D = some (.dT ((PP.pl.zipIdx.take i).foldl numStep []))) ⟨Kp.refl _, upd_same⟩ (fun i H' _ q => SqL.of (q.1 _ _ (by rw [upd_ne a2D]; exact c8.pl.h2) a2D)) (fun i x H9 H10 hi q y => ?_) (fun H9 q => ?_)
      · obtain ⟨T2, num, pv2, rfl, nT2, rfl, hnum, hpv⟩ := y
        obtain ⟨kq, hD⟩ := q
        cases Option.some.inj hnum
        have hpv : (pa3.map V.ref)[i]? = some pv2 := hpv
        rw [List.getElem?_map] at hpv
        cases eb : pa3[i]? with
        | none => rw [eb] at hpv; cases hpv
        | some b =>
        rw [eb] at hpv
        cases Option.some.inj hpv
        obtain ⟨ns, hns, hb⟩ := c8.pt.other eb
        have hb9 : H9 b = some (.tup (ns.map V.int)) := kq _ _ (by rw [upd_ne (ne_of_none hb nD)]; exact hb) (ne_of_none hb nD)
        have ez : PP.pl.zipIdx[i]? = some (ns, i) := by rw [List.getElem?_zipIdx, hns]; simp
        have il : i < PP.pl.length := (List.getElem?_eq_some_iff.mp hns).1
        have nl := nums_len (PP.pl.zipIdx.take i) []
        rw [List.length_take, List.length_zipIdx] at nl
        refine ⟨T2, _, rfl, SqT.of upd_same, rfl, _, _, rfl, _, _, rfl, rfl, rfl, ?_⟩
        refine ⟨_, rfl, _, rfl, (PP.pl.zipIdx.take i).foldl numStep [], (ns.map Sum.inl : List Key), b, rfl, ?_, ?_, ?_, ?_⟩
        · rw [upd_ne (ne_of_none hb9 nT2), hb9, List.map_map]
          rfl
        · rw [upd_ne (ne_of_none hD nT2)]
          exact hD
        · refine Nat.lt_of_le_of_lt (m := 3000) ?_ (by decide)
          simp only [List.length_nil] at nl
          omega
        · refine ⟨fun b o e n => ?_, ?_⟩
          · rw [upd_ne n]
            exact Same.new nT2 _ _ (kq b o e n)
          · rw [upd_same, take_more ez, List.foldl_append]
            rfl
      · obtain ⟨kq, hD⟩ := q
        have S8 : Same G8 H9 := fun b o e => kq b o (by rw [upd_ne (ne_of_none e nD)]; exact e) (ne_of_none e nD)
        have hD : H9 D = some (.dT (numsOf PP.pl)) := by
          rw [hD]
          unfold numsOf
          rw [List.take_of_length_le (by rw [List.length_zipIdx, List.length_map]; omega)]
        refine ⟨_, rfl, p, _, dx, _, rfl, S8 _ _ c8.pl.ob, T.c_Plan, T.n_Plan_numbers, (by show 6 < 1000; decide), ?_⟩
        have c9 := c8.same S8
        have ne9 : ∀ {b : Addr} {o : HO}, H9 b = some o → b ≠ p → upd H9 p (.ins (He.ga K "Plan") dx (putF "numbers" (.ref D) (planF a1 a2 a3 a4 a5 a6))) b = some o := fun h n => by rw [upd_ne n]; exact h
        obtain ⟨np1, np2, np3, np4, np5, np6⟩ := c9.pl.np
        have sv7 : Sv H G7 p := sv6.same St
        have svF : ∀ b o, H b = some o → b ≠ p → H9 b = some o := fun b o e nb => by
          refine S8 _ _ (k8 b o (St b o (sv6 b o e nb)) ?_)
          have no : ∀ {G : Hp} {a : Addr}, Sv H G p → G a = none → b ≠ a := fun {G a} sv n z => by
            subst z
            rw [sv _ _ e nb] at n
            cases n
          rintro (z | z | z | z | z | z)
          · exact no sv0 n1 z
          · exact no sv1 n2 z
          · exact no sv2 n3 z
          · exact no sv3 n4 z
          · exact no sv4 n5 z
          · exact no sv5 n6 z
        have nwR : ∀ {b : Addr} {o : HO}, H b = none → H9 b = some o → b ≠ p → res (Own H p) (upd H9 p (.ins (He.ga K "Plan") dx (putF "numbers" (.ref D) (planF a1 a2 a3 a4 a5 a6)))) b = some o := fun n h np => by
          rw [res_of (S := Own H p) (.inl (NL.new n))]
          exact ne9 h np
        have cellR : ∀ {X : List (List Int)} {cc : List Addr}, CellsAt H9 X cc → (∀ x ∈ cc, H x = none) → CellsAt (res (Own H p) (upd H9 p (.ins (He.ga K "Plan") dx (putF "numbers" (.ref D) (planF a1 a2 a3 a4 a5 a6))))) X cc := fun {X cc} h n => by
          unfold CellsAt at h ⊢
          induction h with
          | nil => exact .nil
          | cons h t ih => exact .cons (nwR (n _ List.mem_cons_self) h (ne_of h c9.pl.ob (by intro z; cases z))) (ih fun x hx => n x (List.mem_cons_of_mem _ hx))
        have nw7 : ∀ x ∈ ce3 ++ cs3, H x = none := fun x hx => freeH sv7 (nw8 x hx) (fun z => by
          have n := nw8 x hx
          rw [z, (c0.same St).pl.ob] at n
          cases n)
        have fD : H D = none := by
          cases q : H D with
          | none => rfl
          | some o =>
            have hb := svF D o q (Ne.symm pD)
            exfalso
            have noC : ¬ C6 a1 a2 a3 a4 a5 a6 D := c8.pl.new nD
            rw [k8 _ _ (St _ _ (sv6 D o q (Ne.symm pD))) noC] at nD
            cases nD
        refine k _ (fun b o e nb => ?_) ⟨a1, a2, a3, a4, a5, a6, D, F3, pa3, ce3, cs3, ?_, nwR n1 c9.pl.h1 np1.symm, nwR (freeH sv1 n2 p2.symm) c9.pl.h2 np2.symm, nwR (freeH sv2 n3 p3.symm) c9.pl.h3 np3.symm, nwR (freeH sv3 n4 p4.symm) c9.pl.h4 np4.symm, nwR (freeH sv4 n5 p5.symm) c9.pl.h5 np5.symm, nwR (freeH sv5 n6 p6.symm) c9.pl.h6 np6.symm, nwR fD hD pD.symm, c9.fl, ?_, cellR c9.en fun x hx => nw7 x (List.mem_append_left _ hx), cellR c9.sd fun x hx => nw7 x (List.mem_append_right _ hx)⟩
        · rw [upd_ne nb]
          exact svF b o e nb
        · rw [res_of (S := Own H p) (.inr rfl)]
          exact upd_same
        · refine c9.pt.imp fun ns b _ e => ?_
          have bp : b ≠ p := ne_of e c9.pl.ob (by intro z; cases z)
          rw [res_of (S := Own H p) (.inl fun o q => by have := svF b o q bp; rw [e] at this; rw [← Option.some.inj this]; rfl)]
          exact ne9 e bp
end
end OR

set_option Elab.async false
set_option maxRecDepth 100000
set_option maxHeartbeats 8000000
set_option linter.all false
namespace OR
open PySem PySem.Spec PyProof.Rows L2 TS2
def namesAll (which : List Str) (fl : List AnyRow) : List Str := (fl.map fun x => named which (fsOf x.2.1) x.2.2).flatten
theorem namesAll_snoc (which : List Str) (fl : List AnyRow) (x : AnyRow) : namesAll which (fl ++ [x]) = namesAll which fl ++ named which (fsOf x.2.1) x.2.2 := by
  unfold namesAll
  rw [List.map_append, List.flatten_append]
  simp
theorem namesAll_take (which : List Str) (fl : List AnyRow) (i : Nat) : (namesAll which (fl.take i)).length ≤ (namesAll which fl).length := by
  unfold namesAll
  conv => rhs; rw [← List.take_append_drop i fl]
  rw [List.map_append, List.flatten_append, List.length_append]
  omega
theorem names_set {P : PySem.Program} {w : World} {K : PySem.W.Frag} {fa : Addr} {x1 x2 x3 x4 x5 x6 : Option V} {H H0 : Hp} {F : List V} {fl : List AnyRow} {n1 n2 : Str} {Q : VK} (hf : H fa = some (.lst F)) (hal : All2 (AnyAt K H0) fl F) (S0 : Same H0 H)
    (ok : ∀ x ∈ fl, (x.2.1, fsOf x.2.1) ∈ ftab ∧ KindsOk (fsOf x.2.1) x.2.2 ∧ (named [n1, n2] (fsOf x.2.1) x.2.2).length ≤ 1000) (nk : ∀ f ∈ [n1, n2], f ≠ "rows" ∧ f ≠ "sides") (few : (namesAll [n1, n2] fl).length ≤ 4000)
    (k : ∀ H' D, Same H H' → H D = none → H' D = some (TxO P w D (uniq (namesAll [n1, n2] fl))) → Q (.ref D) H') :
    tSc2 P w (iList K (tVar 0)) (gName 4) (iList K (tCall (spNamed K) [] E0 (tCons (tVar 4) (tCons (tTup (tCons (tC (.str n1)) (tCons (tC (.str n2)) tNil))) tNil)))) (gName 5) (tVar 5) [4, 5] [5] [some (.ref fa), x1, x2, x3, x4, x5, x6] H Q := by
  refine ⟨_, rfl, fa, rfl, ⟨_, SqL.of hf⟩, fun D nD => ?_⟩
  have fD : fa ≠ D := ne_of_none hf nD
  have keep : ∀ {H' : Hp}, Kp (· = D) (upd H D (TxO P w D [])) H' → Same H H' := fun k b o e => k b o (by rw [upd_ne (ne_of_none e nD)]; exact e) (ne_of_none e nD)
  refine out_it (walk_list (K := K) (a := fa) (xs := F)) (fun i H' => Kp (· = D) (upd H D (TxO P w D [])) H' ∧ H' D = some (TxO P w D (uniq (namesAll [n1, n2] (fl.take i))))) ⟨Kp.refl _, by rw [upd_same]; rfl⟩
    (fun i H' _ q => SqL.of (keep q.1 _ _ hf)) (fun i x H2 H3 hi q y => ?_) (fun H2 q => ?_)
  · obtain ⟨rfl, hx⟩ := y
    obtain ⟨kq, hD⟩ := q
    obtain ⟨a, ha, haa⟩ := hal.other hx
    obtain ⟨o1, o2, o3⟩ := ok a (List.mem_of_getElem? ha)
    have tl := namesAll_take [n1, n2] fl (i + 1)
    rw [take_more ha, namesAll_snoc, List.length_append] at tl
    refine ⟨rfl, ?_⟩
    refine ⟨_, rfl, by show 2 ≤ sizeLine; decide, fun t nt => ?_⟩
    have S1 : Same H3 (upd H3 t (.tup [.str n1, .str n2])) := Same.new nt
    have ht : upd H3 t (.tup [.str n1, .str n2]) t = some (.tup [.str n1, .str n2]) := upd_same
    generalize upd H3 t (.tup [.str n1, .str n2]) = H4 at S1 ht ⊢
    have SH4 := (keep kq).trans S1
    refine ⟨x, t, [n1, n2], H0, a.1, a.2, fsOf a.2.1, rfl, SqT.of ht, haa, S0.trans SH4, o1, o2, nk, o3, fun H5 L S5 nL hL => ?_⟩
    have hD5 := S5 _ _ (S1 _ _ hD)
    have LD : L ≠ D := fun z => by rw [z, S1 _ _ hD] at nL; cases nL
    refine ⟨L, rfl, ⟨_, SqL.of hL⟩, ?_⟩
    refine out_it (walk_list (K := K) (a := L) (xs := (named [n1, n2] (fsOf a.2.1) a.2.2).map V.str)) (fun j H' => Kp (· = D) H5 H' ∧ H' D = some (TxO P w D (uniq (namesAll [n1, n2] (fl.take i) ++ (named [n1, n2] (fsOf a.2.1) a.2.2).take j)))) ⟨Kp.refl _, by rw [hD5]; simp⟩
      (fun j H' _ q => SqL.of (q.1 _ _ hL LD)) (fun j x H6 H7 hj q y => ?_) (fun H6 q => ?_)
    · obtain ⟨rfl, hx2⟩ := y
      obtain ⟨kp, hD6⟩ := q
      rw [List.getElem?_map] at hx2
      cases ez : (named [n1, n2] (fsOf a.2.1) a.2.2)[j]? with
      | none => rw [ez] at hx2; cases hx2
      | some z =>
        rw [ez] at hx2
        cases Option.some.inj hx2
        refine ⟨rfl, ?_⟩
        refine ⟨_, rfl, z, _, rfl, hD6, ?_, fun b o e n => ?_, ?_⟩
        · have h1 := uniq_le (namesAll [n1, n2] (fl.take i) ++ (named [n1, n2] (fsOf a.2.1) a.2.2).take j)
          have h2 : ((named [n1, n2] (fsOf a.2.1) a.2.2).take j).length ≤ (named [n1, n2] (fsOf a.2.1) a.2.2).length := by rw [List.length_take]; omega
          rw [List.length_append] at h1
          have sb : scanBound = 4096 := rfl
          omega
        · rw [upd_ne n]
          exact kp b o e n
        · rw [upd_same, take_more ez, ← List.append_assoc, uniq_snoc]
    · obtain ⟨kp, hD6⟩ := q
      refine ⟨fun b o e n => kp b o (S5 _ _ (S1 _ _ (kq b o e n))) n, ?_⟩
      rw [hD6, take_more ha, namesAll_snoc, List.length_map, List.take_length]
  · obtain ⟨kq, hD⟩ := q
    rw [← hal.len, List.take_length] at hD
    exact k H2 D (keep kq) nD hD
def spNamedIn (K : PySem.W.Frag) : Sp := fun vs H Q _ => ∃ (fa : Addr) (F : List V) (H0 : Hp) (fl : List AnyRow), vs = [.ref fa] ∧ H fa = some (.lst F) ∧ All2 (AnyAt K H0) fl F ∧ Same H0 H ∧
  (∀ x ∈ fl, (x.2.1, fsOf x.2.1) ∈ ftab ∧ KindsOk (fsOf x.2.1) x.2.2 ∧ ∀ which, (named which (fsOf x.2.1) x.2.2).length ≤ 1000) ∧ (∀ which, (namesAll which fl).length ≤ 4000) ∧
  ∀ (H' : Hp) (d a b c : Addr) (ys zs gs : List Str), Same H H' → H' d = some (.dK [(.inr "labels", .ref a), (.inr "slots", .ref b), (.inr "gates", .ref c)]) → H d = none → H' a = some (.lst (ys.map V.str)) → H' b = some (.lst ((zs.filter fun z : Str => decide (z ≠ "in")).map V.str)) → H' c = some (.lst (gs.map V.str)) →
    ys.Perm (uniq (namesAll ["label", "labels"] fl)) → zs.Perm (uniq (namesAll ["slot", "source"] fl)) → gs.Perm (uniq (namesAll ["gate", "edit"] fl)) → H a = none → H b = none → H c = none → Q (.ref d) H'
section
variable {P : Program} {w : World} {K : PySem.W.Frag} {mg : Str → Option Value} {base : Heap}
theorem ok_named_in {f : Addr} {fd : FuncData} (F0 : FnP K "named_in" "named_in" s_named_in f fd) (T : Tx w K mg) (G_words_named : Def P w K mg base CX0 1 "words_named" p_words_named (spNamed K)) : FnOk P w K mg base CX0 2 f fd p_named_in (spNamedIn K) := by
  refine F0.ok sc_named_in (fun vs H Q E h => ?_) (fun cdv A outer s H vs Q E hr h => ?_)
  · obtain ⟨fa, _, _, _, rfl, _⟩ := h
    rfl
  · obtain ⟨fa, F, H0, fl, rfl, hf, hal, S0, ok, few, k⟩ := h
    obtain ⟨t1, mINPUT_SLOT⟩ := T.m_INPUT_SLOT
    refine ⟨_, PSs.nox (pss_cons (ps_set (i := 1) sc_named_in.nd rfl (.inl rfl) (pe_callB (cr_sortedTx rfl) (by rfl) T.b_sorted (by decide +kernel) (pa_cons (pe_sc2 (own := [("row", 4), ("word", 5)]) (g := gName 4) (g1 := gName 5) (vs1 := [5]) (by rfl) sc_named_in.nd (pi_list (pv 0)) (blkOk_by (N := n_named_in) (sc := defScope s_named_in) (by decide +kernel)) (by decide) (fun _ _ _ _ _ => (pg_name (i := 4) sc_named_in.nd rfl (.inl rfl))) (fun _ _ _ _ _ => (show PI _ _ _ (iList K _) from pi_list (pe_fn G_words_named (hr.mono (by decide)) (by rfl) pass0 (pa_cons (pv 4) (pa_cons (pe_tup (pa_cons pe_str (pa_cons pe_str pa_nil))) pa_nil))))) (fun _ _ _ _ _ => (pg_name (i := 5) sc_named_in.nd rfl (.inl rfl))) (fun _ _ _ _ _ => (pv 5))) pa_nil)))
 (pss_cons (ps_set (i := 2) sc_named_in.nd rfl (.inl rfl) (pe_callB (cr_sortedTx rfl) (by rfl) T.b_sorted (by decide +kernel) (pa_cons (pe_sc2 (own := [("row", 4), ("word", 5)]) (g := gName 4) (g1 := gName 5) (vs1 := [5]) (by rfl) sc_named_in.nd (pi_list (pv 0)) (blkOk_by (N := n_named_in) (sc := defScope s_named_in) (by decide +kernel)) (by decide) (fun _ _ _ _ _ => (pg_name (i := 4) sc_named_in.nd rfl (.inl rfl))) (fun _ _ _ _ _ => (show PI _ _ _ (iList K _) from pi_list (pe_fn G_words_named (hr.mono (by decide)) (by rfl) pass0 (pa_cons (pv 4) (pa_cons (pe_tup (pa_cons pe_str (pa_cons pe_str pa_nil))) pa_nil))))) (fun _ _ _ _ _ => (pg_name (i := 5) sc_named_in.nd rfl (.inl rfl))) (fun _ _ _ _ _ => (pv 5))) pa_nil)))
 (pss_cons (ps_set (i := 3) sc_named_in.nd rfl (.inl rfl) (pe_callB (cr_sortedTx rfl) (by rfl) T.b_sorted (by decide +kernel) (pa_cons (pe_sc2 (own := [("row", 4), ("word", 5)]) (g := gName 4) (g1 := gName 5) (vs1 := [5]) (by rfl) sc_named_in.nd (pi_list (pv 0)) (blkOk_by (N := n_named_in) (sc := defScope s_named_in) (by decide +kernel)) (by decide) (fun _ _ _ _ _ => (pg_name (i := 4) sc_named_in.nd rfl (.inl rfl))) (fun _ _ _ _ _ => (show PI _ _ _ (iList K _) from pi_list (pe_fn G_words_named (hr.mono (by decide)) (by rfl) pass0 (pa_cons (pv 4) (pa_cons (pe_tup (pa_cons pe_str (pa_cons pe_str pa_nil))) pa_nil))))) (fun _ _ _ _ _ => (pg_name (i := 5) sc_named_in.nd rfl (.inl rfl))) (fun _ _ _ _ _ => (pv 5))) pa_nil)))
 (pss_one (ps_ret (pe_disp (pps_cons pe_str (pv 1) (pps_cons pe_str (pe_lc (own := [("slot", 6)]) (g := gName 6) (by rfl) sc_named_in.nd (pi_list (pv 2)) (blkOk_by (N := n_named_in) (sc := defScope s_named_in) (by decide +kernel)) (fun _ _ _ _ _ => (pg_name (i := 6) sc_named_in.nd rfl (.inl rfl))) (fun _ _ _ _ _ => (pts_one (pt_cmpR op_ne (pv 6) (pe_glob (by rfl) mINPUT_SLOT (show RelV (.str "in") _ from ⟨_, rfl⟩)) (nomark _)))) (fun _ _ _ _ _ => (pv 6))) (pps_cons pe_str (pv 3) pps_nil))) (by rfl) (by rfl) (fun z => by cases z) (by decide))))))), ?_⟩
    have sb : scanBound = 4096 := rfl
    have lq : ∀ which, (uniq (namesAll which fl)).length < scanBound := fun which => by have h1 := uniq_le (namesAll which fl); have h2 := few which; omega
    have okw : ∀ n1 n2 : Str, ∀ x ∈ fl, (x.2.1, fsOf x.2.1) ∈ ftab ∧ KindsOk (fsOf x.2.1) x.2.2 ∧ (named [n1, n2] (fsOf x.2.1) x.2.2).length ≤ 1000 := fun n1 n2 x hx => ⟨(ok x hx).1, (ok x hx).2.1, (ok x hx).2.2 _⟩
    dsimp only [tSeq, tAsg, tCB, tCons, gName]
    refine names_set (n1 := "label") (n2 := "labels") hf hal S0 (okw _ _) (by decide +kernel) (few _) (fun H1 D1 S1 n1 h1 => ?_)
    refine ⟨D1, _, rfl, h1, lq _, fun ys a pm1 _ na => ?_⟩
    have S2 : Same H1 (upd H1 a (.lst (ys.map V.str))) := Same.new na
    have h2 : upd H1 a (.lst (ys.map V.str)) a = some (.lst (ys.map V.str)) := upd_same
    generalize upd H1 a (.lst (ys.map V.str)) = H2 at S2 h2 ⊢
    have SH2 := S1.trans S2
    dsimp only [tSeq, tAsg, tCB, tCons, gName]
    refine names_set (n1 := "slot") (n2 := "source") (SH2 _ _ hf) hal (S0.trans SH2) (okw _ _) (by decide +kernel) (few _) (fun H3 D3 S3 n3 h3 => ?_)
    refine ⟨D3, _, rfl, h3, lq _, fun zs b pm2 _ nb => ?_⟩
    have S4 : Same H3 (upd H3 b (.lst (zs.map V.str))) := Same.new nb
    have h4 : upd H3 b (.lst (zs.map V.str)) b = some (.lst (zs.map V.str)) := upd_same
    generalize upd H3 b (.lst (zs.map V.str)) = H4 at S4 h4 ⊢
    have SH4 := SH2.trans (S3.trans S4)
    dsimp only [tSeq, tAsg, tCB, tCons, gName]
    refine names_set (n1 := "gate") (n2 := "edit") (SH4 _ _ hf) hal (S0.trans SH4) (okw _ _) (by decide +kernel) (few _) (fun H5 D5 S5 n5 h5 => ?_)
    refine ⟨D5, _, rfl, h5, lq _, fun gs c pm3 _ nc => ?_⟩
    have S6 : Same H5 (upd H5 c (.lst (gs.map V.str))) := Same.new nc
    have h6 : upd H5 c (.lst (gs.map V.str)) c = some (.lst (gs.map V.str)) := upd_same
    generalize upd H5 c (.lst (gs.map V.str)) = H6 at S6 h6 ⊢
    have SH6 := SH4.trans (S5.trans S6)
    have ha6 : H6 a = some (.lst (ys.map V.str)) := (S5.trans S6) _ _ ((S3.trans S4) _ _ h2)
    have hb6 : H6 b = some (.lst (zs.map V.str)) := (S5.trans S6) _ _ h4
    intro p np
    have S7 : Same H6 (upd H6 p (.dK [])) := Same.new np
    have hp : upd H6 p (.dK []) p = some (.dK []) := upd_same
    have ap : a ≠ p := ne_of_none ha6 np
    have bp : b ≠ p := ne_of_none hb6 np
    have cp : c ≠ p := ne_of_none h6 np
    generalize upd H6 p (.dK []) = H7 at S7 hp ⊢
    have hb7 := S7 _ _ hb6
    refine ⟨_, rfl, _, rfl, b, rfl, ⟨_, SqL.of hb7⟩, fun D nD => ?_⟩
    have bD : b ≠ D := ne_of_none hb7 nD
    have pD : p ≠ D := ne_of_none hp nD
    have lz : zs.length ≤ 4000 := by rw [pm2.length_eq]; have := uniq_le (namesAll ["slot", "source"] fl); have := few ["slot", "source"]; omega
    refine lc_it (walk_list (K := K) (a := b) (xs := zs.map V.str)) (fun i H' => Kp (· = D) (upd H7 D (.lst [])) H' ∧ H' D = some (.lst (((zs.take i).filter fun z : Str => decide (z ≠ "in")).map V.str))) ⟨Kp.refl _, upd_same⟩
      (fun i H' _ q => SqL.of (q.1 _ _ (by rw [upd_ne bD]; exact hb7) bD)) (fun i x H8 H9 hi q y => ?_) (fun H8 q => ?_)
    · obtain ⟨rfl, hx⟩ := y
      obtain ⟨kq, hD⟩ := q
      rw [List.getElem?_map] at hx
      cases ez : zs[i]? with
      | none => rw [ez] at hx; cases hx
      | some z =>
        rw [ez] at hx
        cases Option.some.inj hx
        refine ⟨rfl, ?_⟩
        refine ⟨_, rfl, rfl, ?_⟩
        have ee : (!decide (V.str z = V.str "in")) = decide (z ≠ "in") := by by_cases q : z = "in" <;> simp [q]
        rw [ee]
        by_cases cz : z = "in"
        · refine ⟨_, rfl, ?_⟩
          refine iteF' (by simp [cz]) ?_
          refine ⟨kq, ?_⟩
          rw [hD, take_more ez, List.filter_append, List.filter_cons_of_neg (by simp [cz])]
          simp
        · refine ⟨_, rfl, ?_⟩
          refine iteT' (by simp [cz]) ?_
          refine ⟨_, rfl, _, hD, ?_, fun u o e n => ?_, ?_⟩
          · rw [List.length_map]
            have h1 := List.length_filter_le (fun z : Str => decide (z ≠ "in")) (zs.take i)
            rw [List.length_take] at h1
            rw [sizeLine_eq]
            omega
          · rw [upd_ne n]
            exact kq u o e n
          · rw [upd_same, take_more ez, List.filter_append, List.filter_cons_of_pos (by simp [cz])]
            simp
    · obtain ⟨kq, hD⟩ := q
      rw [List.length_map, List.take_length] at hD
      have S8 : Same H7 H8 := fun u o e => kq u o (by rw [upd_ne (ne_of_none e nD)]; exact e) (ne_of_none e nD)
      refine ⟨_, rfl, S8 _ _ hp, [(.inr "labels", .ref a), (.inr "slots", .ref D), (.inr "gates", .ref c)], rfl, by show 3 ≤ 15; decide, ?_⟩
      have Hp0 : H p = none := SH6.free np
      refine k _ p a D c ys zs gs (fun u o e => ?_) (by rw [upd_same]; rfl) Hp0 ?_ ?_ ?_ pm1 pm2 pm3 (S1.free na) ((SH6.trans S7).free nD) ((SH4.trans S5).free nc)
      · rw [upd_ne (ne_of_none e Hp0)]
        exact S8 _ _ (S7 _ _ (SH6 _ _ e))
      · rw [upd_ne ap]
        exact S8 _ _ (S7 _ _ ha6)
      · rw [upd_ne pD.symm]
        exact hD
      · rw [upd_ne cp]
        exact S8 _ _ (S7 _ _ h6)
end
end OR

set_option Elab.async false
set_option maxRecDepth 100000
set_option maxHeartbeats 8000000
set_option linter.all false
namespace OR
open PySem PySem.Spec PyProof.Rows L2 TS2
def fault4 (n l s g : Nat) : Option Str := if 60 < n then some "size" else if 6 < l then some "labels" else if 4 < s then some "slots" else if 8 < g then some "gates" else none
def spSizes (K : PySem.W.Frag) : Sp := fun vs H Q E => ∃ (p dx d fa a b c : Addr) (F A B C : List V) (more : List (Str × V)), vs = [.ref p, .ref d] ∧ H p = some (.ins (He.ga K "Plan") dx (("flat", .ref fa) :: more)) ∧ H fa = some (.lst F) ∧
  H d = some (.dK [(.inr "labels", .ref a), (.inr "slots", .ref b), (.inr "gates", .ref c)]) ∧ H a = some (.lst A) ∧ H b = some (.lst B) ∧ H c = some (.lst C) ∧
  (fault4 F.length A.length B.length C.length = none → Q .non H) ∧ (∀ part, fault4 F.length A.length B.length C.length = some part → Refuses K (fun _ => False) H part [] E)
theorem refused0 {K : PySem.W.Frag} {C : Addr → Prop} {H H8 : Hp} {tp : Addr} {path : List Int} {E : XK} {part : Str} (k : Kp C H H8) (n : ∀ d0, H8 d0 = none → H d0 = none) (ht : SqT K H8 tp (path.map V.int)) (r : Refuses K C H part path E) (d0 : Addr) (H' : Hp) (nd : H8 d0 = none)
    (hd : H' d0 = some (.xd [("path", .ref tp), ("part", .str part)])) (oth : ∀ b, b ≠ d0 → H' b = H8 b) : E (.ref (cIP K)) (some d0) H' := by
  have S : Same H8 H' := fun b o h => by rw [oth b (ne_of_none h nd)]; exact h
  exact r d0 tp H' (k.trans (Kp.of S)) (n d0 nd) hd (sameT S ht)
/-- one entry's answer -/
inductive WordsIs (K : PySem.W.Frag) (H : Hp) (m : Int) : V → Bool → Prop
  | tup {a : Addr} {ws : List Str} (h : SqT K H a (ws.map V.str)) (z : ∀ x ∈ ws, x.length ≤ 1000) (few : ws.length ≤ 1000) : WordsIs K H m (.ref a) (areW m ws)
  | no {v : V} (h : NotA K H v "tuple") : WordsIs K H m v false
inductive RoomIs : V → Bool → Prop
  | int (i : Int) : RoomIs (.int i) (decide (1 ≤ i) && decide (i ≤ 3))
  | bl (c : Bool) : RoomIs (.bl c) false
inductive EntryIs (K : PySem.W.Frag) (H : Hp) (part : Str) : V → Bool → Prop
  | asks {v : V} {b : Bool} (e : part = "asks") (h : WordsIs K H 4 v b) : EntryIs K H part v b
  | sigN {v : V} (e : part ≠ "asks") (h : NotA K H v "tuple") : EntryIs K H part v false
  | sig {a : Addr} {r w : V} {br bw : Bool} (e : part ≠ "asks") (h : SqT K H a [r, w]) (hr : RoomIs r br) (hw : WordsIs K H 3 w bw) : EntryIs K H part (.ref a) (br && bw)
theorem NotA.same {K : PySem.W.Frag} {H H' : Hp} {v : V} {x : String} (s : Same H H') (t : ∀ ty, TyX K H v ty → TyX K H' v ty) (h : NotA K H v x) : NotA K H' v x := by
  obtain ⟨ty, h1, h2⟩ := h
  exact ⟨ty, t ty h1, h2⟩
def spEntry (K : PySem.W.Frag) : Sp := fun vs H Q _ => ∃ (v : V) (part : Str) (b : Bool), vs = [v, .str part] ∧ EntryIs K H part v b ∧ ∀ H', Same H H' → Q (.bl b) H'
section
variable {P : Program} {w : World} {K : PySem.W.Frag} {mg : Str → Option Value} {base : Heap}
theorem ok_check_sizes {f : Addr} {fd : FuncData} (F0 : FnP K "check_sizes" "check_sizes" s_check_sizes f fd) (T : Tx w K mg) (E_InvalidProgram : ErrDef P w K mg base CX0 1 "InvalidProgram" (cIP K) ["self", "part", "path"] ["part", "path"]) :
    FnOk P w K mg base (L2.CX P w) 3 f fd p_check_sizes (spSizes K) := by
  refine F0.ok sc_check_sizes (fun vs H Q E h => ?_) (fun cdv A outer s H vs Q E hr h => ?_)
  · obtain ⟨p, dx, d, _, _, _, _, _, _, _, _, _, rfl, _⟩ := h
    rfl
  · obtain ⟨p, dx, d, fa, a, b, c, F, A1, B1, C1, more, rfl, hp, hf, hd, ha, hb, hc, kq, ke⟩ := h
    have hu := hu_of hr
    obtain ⟨t1, mMOST_ROWS⟩ := T.m_MOST_ROWS
    obtain ⟨t2, mMOST_LABELS⟩ := T.m_MOST_LABELS
    obtain ⟨t3, mMOST_SLOTS⟩ := T.m_MOST_SLOTS
    obtain ⟨t4, mMOST_GATES⟩ := T.m_MOST_GATES
    have rf : ∀ {part : Str}, Refuses K (fun _ => False) H part [] E → ∀ (t : Addr), H t = none → ∀ (d0 : Addr) (H' : Hp), upd H t (.tup []) d0 = none → H' d0 = some (.xd [("path", .ref t), ("part", .str part)]) → (∀ b, b ≠ d0 → H' b = upd H t (.tup []) b) → E (.ref (cIP K)) (some d0) H' := fun r t nt =>
      refused0 (path := []) (Kp.of (Same.new nt)) (fun d0 n => (Same.new nt).free n) (SqT.of upd_same) r
    refine ⟨_, (pss_cons (ps_if (pt_cmpR op_gt (pe_callB call_len_seq (by rfl) T.b_len PySem.boot_len (pa_cons (pe_fld (pv 0) rfl) pa_nil)) (pe_glob (by rfl) mMOST_ROWS (show RelV (.int (60)) _ from ⟨_, rfl⟩)) (nomark _)) (pss_one (ps_raise rfl (takes_of rfl rfl rfl rfl) (pmk_errL E_InvalidProgram (hr.mono (by omega)) (by rfl) pass0 (pa_cons pe_str (pa_cons (pe_tup pa_nil) pa_nil))))) pss_nil)
      (pss_cons (ps_if (pt_cmpR op_gt (pe_callB call_len_seq (by rfl) T.b_len PySem.boot_len (pa_cons (pe_dget hu (pv 1) pe_str (fun _ _ => rfl)) pa_nil)) (pe_glob (by rfl) mMOST_LABELS (show RelV (.int (6)) _ from ⟨_, rfl⟩)) (nomark _)) (pss_one (ps_raise rfl (takes_of rfl rfl rfl rfl) (pmk_errL E_InvalidProgram (hr.mono (by omega)) (by rfl) pass0 (pa_cons pe_str (pa_cons (pe_tup pa_nil) pa_nil))))) pss_nil)
      (pss_cons (ps_if (pt_cmpR op_gt (pe_callB call_len_seq (by rfl) T.b_len PySem.boot_len (pa_cons (pe_dget hu (pv 1) pe_str (fun _ _ => rfl)) pa_nil)) (pe_glob (by rfl) mMOST_SLOTS (show RelV (.int (4)) _ from ⟨_, rfl⟩)) (nomark _)) (pss_one (ps_raise rfl (takes_of rfl rfl rfl rfl) (pmk_errL E_InvalidProgram (hr.mono (by omega)) (by rfl) pass0 (pa_cons pe_str (pa_cons (pe_tup pa_nil) pa_nil))))) pss_nil)
      (pss_one (ps_if (pt_cmpR op_gt (pe_callB call_len_seq (by rfl) T.b_len PySem.boot_len (pa_cons (pe_dget hu (pv 1) pe_str (fun _ _ => rfl)) pa_nil)) (pe_glob (by rfl) mMOST_GATES (show RelV (.int (8)) _ from ⟨_, rfl⟩)) (nomark _)) (pss_one (ps_raise rfl (takes_of rfl rfl rfl rfl) (pmk_errL E_InvalidProgram (hr.mono (by omega)) (by rfl) pass0 (pa_cons pe_str (pa_cons (pe_tup pa_nil) pa_nil))))) pss_nil))))), ?_⟩
    refine ⟨_, rfl, p, _, dx, _, _, rfl, hp, T.c_Plan, T.n_Plan_flat, rfl, fa, _, rfl, .inl (SqL.of hf), _, _, rfl, rfl, _, rfl, ?_⟩
    by_cases c1 : 60 < F.length
    · refine iteT' (decide_eq_true (by omega)) ?_
      refine ⟨by show 0 ≤ sizeLine; decide, fun t nt => ⟨rfl, rf (ke "size" (by unfold fault4; rw [if_pos c1])) t nt⟩⟩
    refine iteF' (decide_eq_false (by omega)) ?_
    refine ⟨_, rfl, d, _, rfl, (show DGet H d (.str "labels") (some (.ref a)) from DGet.k (k := .inr "labels") hd), a, _, rfl, .inl (SqL.of ha), _, _, rfl, rfl, _, rfl, ?_⟩
    by_cases c2 : 6 < A1.length
    · refine iteT' (decide_eq_true (by omega)) ?_
      refine ⟨by show 0 ≤ sizeLine; decide, fun t nt => ⟨rfl, rf (ke "labels" (by unfold fault4; rw [if_neg c1, if_pos c2])) t nt⟩⟩
    refine iteF' (decide_eq_false (by omega)) ?_
    refine ⟨_, rfl, d, _, rfl, (show DGet H d (.str "slots") (some (.ref b)) from DGet.k (k := .inr "slots") hd), b, _, rfl, .inl (SqL.of hb), _, _, rfl, rfl, _, rfl, ?_⟩
    by_cases c3 : 4 < B1.length
    · refine iteT' (decide_eq_true (by omega)) ?_
      refine ⟨by show 0 ≤ sizeLine; decide, fun t nt => ⟨rfl, rf (ke "slots" (by unfold fault4; rw [if_neg c1, if_neg c2, if_pos c3])) t nt⟩⟩
    refine iteF' (decide_eq_false (by omega)) ?_
    refine ⟨_, rfl, d, _, rfl, (show DGet H d (.str "gates") (some (.ref c)) from DGet.k (k := .inr "gates") hd), c, _, rfl, .inl (SqL.of hc), _, _, rfl, rfl, _, rfl, ?_⟩
    by_cases c4 : 8 < C1.length
    · refine iteT' (decide_eq_true (by omega)) ?_
      refine ⟨by show 0 ≤ sizeLine; decide, fun t nt => ⟨rfl, rf (ke "gates" (by unfold fault4; rw [if_neg c1, if_neg c2, if_neg c3, if_pos c4])) t nt⟩⟩
    refine iteF' (decide_eq_false (by omega)) ?_
    exact kq (by unfold fault4; rw [if_neg c1, if_neg c2, if_neg c3, if_neg c4])
theorem ok_is_entry {f : Addr} {fd : FuncData} (F0 : FnP K "is_entry" "is_entry" s_is_entry f fd) (T : Tx w K mg) (G_is_integer : Def P w K mg base CX0 1 "is_integer" p_is_integer spIsInt) (G_are_words : Def P w K mg base CX0 2 "are_words" p_are_words (spAreWords K)) :
    FnOk P w K mg base CX0 3 f fd p_is_entry (spEntry K) := by
  refine F0.ok sc_is_entry (fun vs H Q E h => ?_) (fun cdv A outer s H vs Q E hr h => ?_)
  · obtain ⟨v, part, _, rfl, _⟩ := h
    rfl
  · obtain ⟨v, part, b, rfl, he, k⟩ := h
    obtain ⟨t1, mMOST_ANSWERS⟩ := T.m_MOST_ANSWERS
    obtain ⟨t2, mMOST_ROOM⟩ := T.m_MOST_ROOM
    obtain ⟨t3, mMOST_SIGNAL_WORDS⟩ := T.m_MOST_SIGNAL_WORDS
    refine ⟨_, PSs.nox (pss_cons (ps_if (pt_cmpR op_eq (pv 1) pe_str (nomark _)) (pss_one (ps_ret (pe_fn G_are_words (hr.mono (by omega)) (by rfl) pass0 (pa_cons (pv 0) (pa_cons (pe_glob (by rfl) mMOST_ANSWERS (show RelV (.int (4)) _ from ⟨_, rfl⟩)) pa_nil))))) pss_nil)
      (pss_cons (ps_if (PW.pt (pw_or (pt_not (pt_val (pe_callB call_isi (by rfl) T.b_isinstance (by decide +kernel) (pa_cons (pv 0) (pa_cons (pe_bltn (v := .ty "tuple") (u := .type "tuple") (by rfl) T.b_tuple (by decide +kernel) rfl) pa_nil))))) (pw_or1 (pt_cmpR op_ne (pe_callB call_len_seq (by rfl) T.b_len PySem.boot_len (pa_cons (pv 0) pa_nil)) pe_int (nomark _))))) (pss_one (ps_ret pe_bl)) pss_nil)
      (pss_cons (ps_asg (pv 0) (pg_tup (by rfl) (pgs_cons (pg_name (i := 2) sc_is_entry.nd rfl (.inl rfl)) (pgs_cons (pg_name (i := 3) sc_is_entry.nd rfl (.inl rfl)) pgs_nil))))
      (pss_one (ps_ret (pe_and (pe_fn G_is_integer (hr.mono (by omega)) (by rfl) pass0 (pa_cons (pv 2) pa_nil)) (pe_and (pe_chain op_le op_le pe_int (pv 2) (pe_glob (by rfl) mMOST_ROOM (show RelV (.int (3)) _ from ⟨_, rfl⟩))) (pe_one (pe_fn G_are_words (hr.mono (by omega)) (by rfl) pass0 (pa_cons (pv 3) (pa_cons (pe_glob (by rfl) mMOST_SIGNAL_WORDS (show RelV (.int (3)) _ from ⟨_, rfl⟩)) pa_nil))))))))))), ?_⟩
    refine ⟨_, rfl, rfl, _, rfl, ?_⟩
    cases he with
    | asks e hw =>
      refine iteT' (decide_eq_true (by rw [e])) ?_
      refine ⟨_, rfl, v, 4, rfl, ?_⟩
      cases hw with
      | tup h z few => exact .inl ⟨_, _, rfl, h, fun x hx => Nat.le_of_lt (small1000 (z x hx)), few, k⟩
      | no h => exact .inr ⟨h, k H (Same.refl H)⟩
    | sigN e h =>
      obtain ⟨ty, n1, n2⟩ := h
      refine iteF' (decide_eq_false fun z => e (by injection z)) ?_
      refine ⟨_, rfl, v, .ty "tuple", _, _, false, rfl, .ty _, n1, n2, _, rfl, ?_⟩
      refine iteT ?_
      refine iteT ?_
      exact k H (Same.refl H)
    | sig e h hr2 hw =>
      rename_i a r w1 br bw
      refine iteF' (decide_eq_false fun z => e (by injection z)) ?_
      refine ⟨_, rfl, .ref a, .ty "tuple", _, _, true, rfl, .ty _, tyT h, kit_ty (by decide +kernel), _, rfl, ?_⟩
      refine iteF ⟨_, rfl, a, _, rfl, .inr h, rfl, _, rfl, ?_⟩
      refine iteF' (by rfl) ?_
      refine ⟨_, rfl, a, _, rfl, h, rfl, _, _, rfl, _, _, rfl, rfl, ?_⟩
      refine ⟨_, rfl, ?_⟩
      cases hr2 with
      | bl c =>
        refine ⟨.bl c, false, rfl, .inr (.inl ⟨c, rfl, rfl⟩), ?_⟩
        refine ⟨_, rfl, ?_⟩
        exact iteF (k H (Same.refl H))
      | int i =>
        refine ⟨.int i, true, rfl, .inl ⟨i, rfl, rfl⟩, ?_⟩
        refine ⟨_, rfl, iteT ?_⟩
        refine tchainC (i := 1) (j := i) (c := 3) val_c (val_var rfl) ?_
        refine ⟨_, rfl, ?_⟩
        have k' : ∀ H', Same H H' → Q (.bl ((decide (1 ≤ i) && decide (i ≤ 3)) && bw)) H' := k
        cases eb : (decide (1 ≤ i) && decide (i ≤ 3)) with
        | false =>
          rw [eb] at k'
          exact iteF (k' H (Same.refl H))
        | true =>
          rw [eb] at k'
          refine iteT ⟨_, rfl, w1, 3, rfl, ?_⟩
          cases hw with
          | tup h2 z few => exact .inl ⟨_, _, rfl, h2, fun x hx => Nat.le_of_lt (small1000 (z x hx)), few, k'⟩
          | no h2 => exact .inr ⟨h2, k' H (Same.refl H)⟩
end
end OR

set_option Elab.async false
set_option maxRecDepth 100000
set_option maxHeartbeats 8000000
set_option linter.all false
namespace OR
open PySem PySem.Spec PyProof.Rows L2 TS2
/-- a table's entries: their names, the answers about their values -/
structure TabIs (K : PySem.W.Frag) (H : Hp) (part : Str) (kvs : List (Key × V)) (ns : List Str) (bs : List Bool) : Prop where
  names : kvs.map (·.1) = ns.map Sum.inr
  len : bs.length = kvs.length
  ans : ∀ (i : Nat) (v : V) (b : Bool), (kvs.map (·.2))[i]? = some v → bs[i]? = some b → EntryIs K H part v b
  small : ∀ z ∈ ns, z.length ≤ 1000
def tabOk (ns : List Str) (bs : List Bool) : Bool := (ns.zip bs).all fun x => isWord x.1 && x.2
def spTable (K : PySem.W.Frag) : Sp := fun vs H Q E => ∃ (v : V) (part : Str) (most : Int), vs = [v, .str part, .int most] ∧
  ((v = .non ∧ ∀ D, H D = none → Q (.ref D) (upd H D (.dK []))) ∨ (NotA K H v "dict" ∧ v ≠ .non ∧ Refuses K (fun _ => False) H part [] E) ∨
    ∃ (d : Addr) (kvs : List (Key × V)) (ns : List Str) (bs : List Bool), v = .ref d ∧ H d = some (.dK kvs) ∧ kvs.length ≤ 1000 ∧ (∀ H', Kp (· = d) H H' → TabIs K H' part kvs ns bs) ∧
      (((kvs.length : Int) ≤ most ∧ tabOk ns bs = true) → ∀ H' D, Same H H' → H D = none → H' D = some (.dK kvs) → Q (.ref D) H') ∧ (¬ ((kvs.length : Int) ≤ most ∧ tabOk ns bs = true) → Refuses K (· = d) H part [] E))
theorem tyD {K : PySem.W.Frag} {H : Hp} {a : Addr} {kvs : List (Key × V)} (h : H a = some (.dK kvs)) : TyX K H (.ref a) (.type "dict") := .base (.dK h)
section
variable {P : Program} {w : World} {K : PySem.W.Frag} {mg : Str → Option Value} {base : Heap}
theorem ok_checked_table {f : Addr} {fd : FuncData} (F0 : FnP K "checked_table" "checked_table" s_checked_table f fd) (T : Tx w K mg) (E_InvalidProgram : ErrDef P w K mg base CX0 1 "InvalidProgram" (cIP K) ["self", "part", "path"] ["part", "path"])
    (G_is_word : Def P w K mg base CX0 1 "is_word" p_is_word (spIsWord K)) (G_is_entry : Def P w K mg base CX0 3 "is_entry" p_is_entry (spEntry K)) : FnOk P w K mg base (L2.CX P w) 4 f fd p_checked_table (spTable K) := by
  refine F0.ok sc_checked_table (fun vs H Q E h => ?_) (fun cdv A outer s H vs Q E hr h => ?_)
  · obtain ⟨v, part, most, rfl, _⟩ := h
    rfl
  · obtain ⟨v, part, most, rfl, h⟩ := h
    refine ⟨_, (pss_cons (ps_if (pt_cmpR op_isN (pv 0) pe_non (nomark _)) (pss_one (ps_ret pe_dnewK)) pss_nil)
      (pss_cons (ps_if (PW.pt (pw_or (pt_not (pt_val (pe_callB call_isi (by rfl) T.b_isinstance (by decide +kernel) (pa_cons (pv 0) (pa_cons (pe_bltn (v := .ty "dict") (u := .type "dict") (by rfl) T.b_dict (by decide +kernel) rfl) pa_nil))))) (pw_or1 (pt_cmpR op_gt (pe_callB call_lenD (by rfl) T.b_len PySem.boot_len (pa_cons (pv 0) pa_nil)) (pv 2) (nomark _))))) (pss_one (ps_raise rfl (takes_of rfl rfl rfl rfl) (pmk_errL E_InvalidProgram (hr.mono (by omega)) (by rfl) pass0 (pa_cons (pv 1) (pa_cons (pe_tup pa_nil) pa_nil))))) pss_nil)
      (pss_cons (ps_lock (ps_for (passes_of rfl) rfl (pi_items (pv 0)) (pg_tup (by rfl) (pgs_cons (pg_name (i := 3) sc_checked_table.nd rfl (.inl rfl)) (pgs_cons (pg_name (i := 4) sc_checked_table.nd rfl (.inl rfl)) pgs_nil))) (pss_one (ps_if (PW.pt (pw_or (pt_not (pt_val (pe_fn G_is_word (hr.mono (by omega)) (by rfl) pass0 (pa_cons (pv 3) pa_nil)))) (pw_or1 (pt_not (pt_val (pe_fn G_is_entry (hr.mono (by omega)) (by rfl) pass0 (pa_cons (pv 4) (pa_cons (pv 1) pa_nil)))))))) (pss_one (ps_raise rfl (takes_of rfl rfl rfl rfl) (pmk_errL E_InvalidProgram (hr.mono (by omega)) (by rfl) pass0 (pa_cons (pv 1) (pa_cons (pe_tup pa_nil) pa_nil))))) pss_nil))))
      (pss_one (ps_ret (pe_callTy call_dictD (by rfl) T.b_dict (by decide +kernel) (pa_cons (pv 0) pa_nil))))))), ?_⟩
    refine ⟨_, rfl, rfl, _, rfl, ?_⟩
    rcases h with ⟨rfl, k⟩ | ⟨⟨ty, n1, n2⟩, nn, ke⟩ | ⟨d, kvs, ns, bs, rfl, hd, few, tab, kq, ke⟩
    · refine iteT' (by rfl) ?_
      intro D nD
      exact k D nD
    · refine iteF' (decide_eq_false nn) ?_
      refine ⟨_, rfl, v, .ty "dict", _, _, false, rfl, .ty _, n1, n2, _, rfl, ?_⟩
      refine iteT ?_
      refine iteT ?_
      exact ⟨_, rfl, by show 0 ≤ sizeLine; decide, fun t nt => ⟨rfl, refused0 (path := []) (Kp.of (Same.new nt)) (fun d0 n => (Same.new nt).free n) (SqT.of upd_same) ke⟩⟩
    · refine iteF' (by rfl) ?_
      refine ⟨_, rfl, .ref d, .ty "dict", _, _, true, rfl, .ty _, tyD hd, kit_ty (by decide +kernel), _, rfl, ?_⟩
      refine iteF ?_
      refine ⟨_, rfl, d, kvs, rfl, hd, _, rfl, _, _, rfl, rfl, _, rfl, ?_⟩
      by_cases c1 : (most < (kvs.length : Int))
      · refine iteT' (decide_eq_true c1) ?_
        exact ⟨_, rfl, by show 0 ≤ sizeLine; decide, fun t nt => ⟨rfl, refused0 (path := []) (Kp.of (Same.new nt)) (fun d0 n => (Same.new nt).free n) (SqT.of upd_same) (ke (fun z => by omega))⟩⟩
      refine iteF' (decide_eq_false c1) ?_
      have tab0 := tab H (Kp.refl H)
      have ln : ns.length = kvs.length := by have := congrArg List.length tab0.names; simpa using this.symm
      have lz : (ns.zip bs).length = kvs.length := by rw [List.length_zip, ln, tab0.len]; simp
      have fr : ∀ {Hc : Hp} {u : HO}, Kp (· = d) H Hc → Hc d = some u → ∀ d0, Hc d0 = none → H d0 = none := fun {Hc u} kp hc d0 n => by
        cases q : H d0 with
        | none => rfl
        | some o =>
          by_cases z : d0 = d
          · rw [z, hc] at n; cases n
          · rw [kp _ _ q z] at n; cases n
      refine ⟨d, .dK kvs, hd, trivial, fun od => ?_⟩
      refine ⟨_, rfl, d, od, kvs, rfl, upd_same, ?_⟩
      refine for_it (walk_items (d := d) (o := od) (kvs := kvs)) (fun i σ' H' => (∃ y3 y4, σ' = [some (.ref d), some (.str part), some (.int most), y3, y4]) ∧ H' d = some (.frz od (.dK kvs)) ∧ Kp (· = d) H H' ∧ ((ns.zip bs).take i).all (fun x => isWord x.1 && x.2) = true)
        ⟨⟨_, _, rfl⟩, upd_same, Kp.put rfl, rfl⟩ (fun i σ' H' _ q => q.2.1) (fun i x σ' H3 H4 hi q y => ?_) (fun σ' H' q => ?_)
      · obtain ⟨⟨y3, y4, rfl⟩, hf, kp, al⟩ := q
        obtain ⟨T1, kx, vx, rfl, nT, rfl, hk, hv⟩ := y
        have hkv : kvs[i]? = some kvs[i] := List.getElem?_eq_getElem hi
        have hk : kvs[i]?.map (fun kv => kV kv.1) = some kx := hk
        have hv : kvs[i]?.map Prod.snd = some vx := hv
        have hn : ns[i]? = some (ns[i]'(by omega)) := List.getElem?_eq_getElem _
        have hb : bs[i]? = some (bs[i]'(by rw [tab0.len]; exact hi)) := List.getElem?_eq_getElem _
        generalize ns[i]'(by omega) = z at hn
        generalize bs[i]'(by rw [tab0.len]; exact hi) = bb at hb
        have ek : kx = .str z := by
          have e1 : (kvs.map (·.1))[i]? = (ns.map (Sum.inr : Str → Key))[i]? := by rw [tab0.names]
          rw [List.getElem?_map, List.getElem?_map, hn, hkv] at e1
          rw [hkv] at hk
          have e2 : kvs[i].1 = Sum.inr z := Option.some.inj e1
          have e3 : kV kvs[i].1 = kx := Option.some.inj hk
          rw [← e3, e2]
          rfl
        subst ek
        have hz : (ns.zip bs)[i]? = some (z, bb) := by rw [List.getElem?_zip_eq_some]; exact ⟨hn, hb⟩
        have S1 : Same H3 (upd H3 T1 (.tup [.str z, vx])) := Same.new nT
        refine ⟨T1, _, rfl, SqT.of upd_same, rfl, _, _, rfl, _, _, rfl, rfl, ?_⟩
        have hf4 := S1 _ _ hf
        have kp4 := kp.trans (Kp.of (C := (· = d)) S1)
        generalize upd H3 T1 (.tup [.str z, vx]) = H5 at hf4 kp4 ⊢
        refine ⟨_, rfl, .inl ⟨z, rfl, Nat.le_of_lt (small1000 (tab0.small z (List.mem_of_getElem? hn))), fun H6 S6 => ?_⟩⟩
        have kp6 := kp4.trans (Kp.of (C := (· = d)) S6)
        have hf6 := S6 _ _ hf4
        have bad : (isWord z && bb) = false → ¬ ((kvs.length : Int) ≤ most ∧ tabOk ns bs = true) := fun e q => by
          have := q.2
          unfold tabOk at this
          rw [List.all_eq_true] at this
          have h1 := this _ (List.mem_of_getElem? hz)
          simp only at h1
          rw [e] at h1
          cases h1
        refine ⟨_, rfl, ?_⟩
        cases ew : isWord z with
        | false =>
          refine iteT ?_
          refine ⟨_, rfl, by show 0 ≤ sizeLine; decide, fun t nt => ⟨rfl, ?_⟩⟩
          exact refused0 (path := []) (kp6.trans (Kp.of (Same.new nt))) (fun d0 n => fr kp6 hf6 d0 ((Same.new nt).free n)) (SqT.of upd_same) (ke (bad (by rw [ew]; rfl)))
        | true =>
          refine iteF ?_
          refine ⟨_, rfl, _, rfl, vx, part, bb, rfl, (tab H6 kp6).ans i vx bb (by rw [List.getElem?_map]; exact hv) hb, fun H7 S7 => ?_⟩
          have kp7 := kp6.trans (Kp.of (C := (· = d)) S7)
          have hf7 := S7 _ _ hf6
          refine ⟨_, rfl, ?_⟩
          cases eb : bb with
          | false =>
            refine iteT ?_
            refine ⟨_, rfl, by show 0 ≤ sizeLine; decide, fun t nt => ⟨rfl, ?_⟩⟩
            exact refused0 (path := []) (kp7.trans (Kp.of (Same.new nt))) (fun d0 n => fr kp7 hf7 d0 ((Same.new nt).free n)) (SqT.of upd_same) (ke (bad (by rw [eb]; simp)))
          | true =>
            refine iteF ?_
            refine ⟨⟨_, _, rfl⟩, hf7, kp7, ?_⟩
            rw [take_more hz, List.all_append, al]
            simp [ew, eb]
      · obtain ⟨⟨y3, y4, rfl⟩, hf, kp, al⟩ := q
        refine ⟨hf, ?_⟩
        rw [← lz, List.take_length] at al
        have S9 : Same H (upd H' d (.dK kvs)) := fun b o e => by
          by_cases z : b = d
          · rw [z, upd_same, ← hd, ← z, e]
          · rw [upd_ne z]; exact kp b o e z
        refine ⟨_, rfl, d, kvs, rfl, .inl upd_same, fun D nD => ?_⟩
        exact kq ⟨by omega, al⟩ _ D (S9.trans (Same.new nD)) (S9.free nD) upd_same
end
end OR

set_option Elab.async false
set_option maxRecDepth 100000
set_option maxHeartbeats 8000000
set_option linter.all false
namespace OR
open PySem PySem.Spec PyProof.Rows L2 TS2
/-- an argument that is to be a table, as it stands in H0: what it holds, or that it is refused -/
inductive TabArg (K : PySem.W.Frag) (H0 : Hp) (part : Str) (most : Int) : V → Option (List (Key × V)) → Prop
  | non : TabArg K H0 part most .non (some [])
  | bad {v : V} (n : v ≠ .non) (h : ∀ H', Same H0 H' → NotA K H' v "dict") : TabArg K H0 part most v none
  | good {d : Addr} {kvs : List (Key × V)} {ns : List Str} {bs : List Bool} (h : H0 d = some (.dK kvs)) (few : kvs.length ≤ 1000) (t : ∀ H', Kp (· = d) H0 H' → TabIs K H' part kvs ns bs) (ok : (kvs.length : Int) ≤ most ∧ tabOk ns bs = true) : TabArg K H0 part most (.ref d) (some kvs)
  | wrong {d : Addr} {kvs : List (Key × V)} {ns : List Str} {bs : List Bool} (h : H0 d = some (.dK kvs)) (few : kvs.length ≤ 1000) (t : ∀ H', Kp (· = d) H0 H' → TabIs K H' part kvs ns bs) (no : ¬ ((kvs.length : Int) ≤ most ∧ tabOk ns bs = true)) : TabArg K H0 part most (.ref d) none
theorem tab_call {K : PySem.W.Frag} {H0 H : Hp} {part : Str} {most : Int} {v : V} {o : Option (List (Key × V))} {Q : VK} {E : XK} (t : TabArg K H0 part most v o) (S : Same H0 H) (kq : ∀ kvs, o = some kvs → ∀ H' D, Same H H' → H D = none → H' D = some (.dK kvs) → Q (.ref D) H')
    (ke : o = none → Refuses K (fun b => v = .ref b) H part [] E) : spTable K [v, .str part, .int most] H Q E := by
  have wk : ∀ {C : Addr → Prop}, (∀ b, C b → v = .ref b) → o = none → Refuses K C H part [] E := fun {C} h e dd t H' k nd hd ht => ke e dd t H' (k.mono h) nd hd ht
  refine ⟨v, part, most, rfl, ?_⟩
  cases t with
  | non => exact .inl ⟨rfl, fun D nD => kq [] rfl _ D (Same.new nD) nD upd_same⟩
  | bad n h => exact .inr (.inl ⟨h H S, n, wk (fun _ z => z.elim) rfl⟩)
  | good h few t ok => exact .inr (.inr ⟨_, _, _, _, rfl, S _ _ h, few, fun H' k => t H' ((Kp.of S).trans k), fun _ H' D S' n e => kq _ rfl H' D S' n e, fun no => absurd ok no⟩)
  | wrong h few t no => exact .inr (.inr ⟨_, _, _, _, rfl, S _ _ h, few, fun H' k => t H' ((Kp.of S).trans k), fun ok => absurd ok no, fun _ => wk (fun _ z => by rw [z]) rfl⟩)
/-! ### what passes the check has the shape -/
theorem seqChk_none {α : Type} {f : α → List Int → Sn → Option (List Int) × Sn} {pre : List Int} : ∀ {l : List α} {i : Nat} {st : Sn}, (seqChk f pre l i st).1 = none → ∀ x ∈ l, ∃ p st', (f x p st').1 = none
  | [], _, _, _, x, hx => by simp at hx
  | y :: ys, i, st, h, x, hx => by
    unfold seqChk at h
    cases e : f y (pre ++ [(i : Int)]) st with
    | mk o st' =>
      rw [e] at h
      cases o with
      | some p => simp at h
      | none =>
        rcases List.mem_cons.mp hx with rfl | hx
        · exact ⟨_, _, by rw [e]⟩
        · exact seqChk_none h x hx
theorem chk_shape (ed : Bool) (ka ks : List (Key × V)) : ∀ (d : Nat) (il : Bool) (rows : List (Row d)) (pre : List Int) (st : Sn), (chk ed ka ks d il rows pre st).1 = none → (∀ r ∈ rows, Pre d r) → ∀ r ∈ rows, Shape d r
  | 0, _, _, _, _, _, _, r, _ => nomatch r
  | d + 1, il, rows, pre, st, h, pr, r, hr => by
    obtain ⟨p, st', e⟩ := seqChk_none (f := oneChk ed ka ks (chk ed ka ks d) il) h r hr
    obtain ⟨hf, nice, l1, k1, kk⟩ := pr r hr
    unfold oneChk at e
    cases c1 : (hasForm ed ka ks r.1 (fsOf r.1) r.2 && mayS r.1 p.length il (kids r.2).length) with
    | false => rw [c1] at e; simp at e
    | true =>
      rw [c1] at e
      have hk := hasForm_kinds (by simp only [Bool.and_eq_true] at c1; exact c1.1)
      refine ⟨⟨_, hf, hk⟩, fun q hq => ?_, k1, fun l hl => ⟨(kk l hl).1, ?_⟩⟩
      · obtain ⟨i, hi⟩ := List.getElem?_of_mem hq
        obtain ⟨f, hfi, _⟩ := hk.other hi
        exact (nice (f, q) (List.mem_of_getElem? (i := i) (by rw [List.getElem?_zip_eq_some]; exact ⟨hfi, hi⟩))).2.1
      · rw [if_pos rfl] at e
        cases c3 : (isNew (fsOf r.1) r.2 st').1 with
        | false => rw [c3] at e; simp at e
        | true =>
          rw [c3, if_pos rfl] at e
          obtain ⟨p2, st2, e2⟩ := seqChk_none e l hl
          exact chk_shape ed ka ks d _ l p2 st2 e2 (kk l hl).2
theorem named_le {R : Type} (which : List Str) : ∀ (fs : List Str) (ps : List (Pt R)), (∀ p ∈ ps, (wordsP p).length ≤ 100) → (named which fs ps).length ≤ 100 * ps.length
  | [], ps, _ => by simp [named]
  | f :: fs, [], _ => by simp [named]
  | f :: fs, p :: ps, h => by
    have ih := named_le which fs ps fun q hq => h q (List.mem_cons_of_mem _ hq)
    have h1 := h p List.mem_cons_self
    have e : named which (f :: fs) (p :: ps) = (if f ∈ which then wordsP p else []) ++ named which fs ps := by unfold named; simp
    rw [e, List.length_append, List.length_cons]
    have h2 : (if f ∈ which then wordsP p else []).length ≤ 100 := by
      split
      · exact h1
      · simp
    omega
/-- what is told of a row within the flat list -/
def FlatOk (x : AnyRow) : Prop := (x.2.1, fsOf x.2.1) ∈ ftab ∧ KindsOk (fsOf x.2.1) x.2.2 ∧ ∀ which, (named which (fsOf x.2.1) x.2.2).length ≤ 1000
theorem flat_ok : ∀ (d : Nat) (r : Row d), Shape d r → ∀ x ∈ flatR d r, FlatOk x
  | 0, r, _, _, _ => nomatch r
  | d + 1, r, sh, x, hx => by
    have four := sh.parts
    obtain ⟨⟨fs, hf, hk⟩, wl, _, sk⟩ := sh
    have ef : fsOf r.1 = fs := fsOf_at _ hf
    rcases List.mem_cons.mp hx with rfl | hx
    · refine ⟨by show (r.1, fsOf r.1) ∈ ftab; rw [ef]; exact hf, by show KindsOk (fsOf r.1) r.2; rw [ef]; exact hk, fun which => ?_⟩
      have := named_le which (fsOf r.1) r.2 wl
      show (named which (fsOf r.1) r.2).length ≤ 1000
      omega
    · rw [List.mem_flatten] at hx
      obtain ⟨l, hl, hx⟩ := hx
      rw [List.mem_map] at hl
      obtain ⟨l', hl', rfl⟩ := hl
      rw [List.mem_flatten] at hx
      obtain ⟨l2, hl2, hx⟩ := hx
      rw [List.mem_map] at hl2
      obtain ⟨r', hr', rfl⟩ := hl2
      exact flat_ok d r' ((sk l' hl').2 r' hr') x hx
theorem flatL_ok {d : Nat} {rows : List (Row d)} (sh : ∀ r ∈ rows, Shape d r) : ∀ x ∈ flatL d rows, FlatOk x := fun x hx => by
  unfold flatL at hx
  rw [List.mem_flatten] at hx
  obtain ⟨l, hl, hx⟩ := hx
  rw [List.mem_map] at hl
  obtain ⟨r, hr, rfl⟩ := hl
  exact flat_ok d r (sh r hr) x hx
end OR

set_option Elab.async false
set_option maxRecDepth 100000
set_option maxHeartbeats 8000000
set_option linter.all false
namespace OR
open PySem PySem.Spec PyProof.Rows L2 TS2
def labelsN (d : Nat) (rows : List (Row d)) : Nat := (uniq (namesAll ["label", "labels"] (flatL d rows))).length
def slotsN (d : Nat) (rows : List (Row d)) : Nat := ((uniq (namesAll ["slot", "source"] (flatL d rows))).filter fun z : Str => decide (z ≠ "in")).length
def gatesN (d : Nat) (rows : List (Row d)) : Nat := (uniq (namesAll ["gate", "edit"] (flatL d rows))).length
/-- what a draft of these parts is refused with, if it is -/
def outcome (ed : Bool) (oa os : Option (List (Key × V))) (bi : Bool) (d : Nat) (orows : Option (List (Row d))) : Option (Str × List Int) :=
  match oa with
  | none => some ("asks", [])
  | some ka => match os with
    | none => some ("signals", [])
    | some ks => if bi then (match orows with
        | none => some ("rows", [])
        | some rows => match (chk ed ka ks d false rows [] ([], [])).1 with
          | some path => some ("rows", path)
          | none => (fault4 (lsz d rows) (labelsN d rows) (slotsN d rows) (gatesN d rows)).map fun part => (part, []))
      else some ("inputs", [])
inductive RowsArg (K : PySem.W.Frag) (H0 : Hp) (d : Nat) : V → Option (List (Row d)) → Prop
  | bad {v : V} (h : ∀ H', Same H0 H' → NotA K H' v "list") : RowsArg K H0 d v none
  | good {r : Addr} {xs : List V} {rows : List (Row d)} (h : H0 r = some (.lst xs)) (a : All2 (RowAt K H0 d) rows xs) (p : ∀ x ∈ rows, Pre d x) (lr : rows.length ≤ 1000) (few : lsz d rows ≤ 2900) (names : ∀ which, (namesAll which (flatL d rows)).length ≤ 4000) : RowsArg K H0 d (.ref r) (some rows)
def draftF (a s : Addr) (i : V) (l pl nt : Addr) : List (Str × V) := [("ask_table", .ref a), ("signal_table", .ref s), ("input_words", i), ("row_list", .ref l), ("plan", .ref pl), ("name_table", .ref nt)]
/-- the classes of drafts: their fields are told by no attribute -/
structure DCls (K : PySem.W.Frag) (C : Addr) : Prop where
  c : Cls K C
  n : ∀ f ∈ (["ask_table", "signal_table", "input_words", "row_list", "plan", "name_table"] : List Str), NoAttr K C f
/-- the names of a program, in tables of their own -/
def NamesOk (d : Nat) (rows : List (Row d)) (H : Hp) (nt : Addr) : Prop := ∃ (a b c : Addr) (ys zs gs : List Str), H nt = some (.dK [(.inr "labels", .ref a), (.inr "slots", .ref b), (.inr "gates", .ref c)]) ∧ H a = some (.lst (ys.map V.str)) ∧ H b = some (.lst ((zs.filter fun z : Str => decide (z ≠ "in")).map V.str)) ∧ H c = some (.lst (gs.map V.str)) ∧
  ys.Perm (uniq (namesAll ["label", "labels"] (flatL d rows))) ∧ zs.Perm (uniq (namesAll ["slot", "source"] (flatL d rows))) ∧ gs.Perm (uniq (namesAll ["gate", "edit"] (flatL d rows)))
/-- a draft that stands -/
def DraftOk (K : PySem.W.Frag) (H : Hp) (p dx C : Addr) (ka ks : List (Key × V)) (vi : V) (d : Nat) (rows : List (Row d)) : Prop := ∃ (a s l pl nt dx2 : Addr) (ys : List V), H p = some (.ins C dx (draftF a s vi l pl nt)) ∧ H a = some (.dK ka) ∧ H s = some (.dK ks) ∧ H l = some (.lst ys) ∧ All2 (RowAt K H d) rows ys ∧
  (∀ r ∈ rows, Shape d r) ∧ PlanOk K H H pl dx2 (planOf d rows) ∧ NamesOk d rows H nt
theorem AnyAt.mono {K : PySem.W.Frag} {H H' : Hp} (s : Same H H') {x : AnyRow} {v : V} (h : AnyAt K H x v) : AnyAt K H' x v := RowAt.mono s h
theorem PlanOk.both {K : PySem.W.Frag} {H0 H0' H H' : Hp} {p dx : Addr} {P : PM} (c : PlanOk K H0 H p dx P) (s0 : Same H0 H0') (s : Same H H') : PlanOk K H0' H' p dx P := by
  obtain ⟨a1, a2, a3, a4, a5, a6, a7, F, pa, ce, cs, c⟩ := c.same s
  exact ⟨a1, a2, a3, a4, a5, a6, a7, F, pa, ce, cs, { c with fl := c.fl.imp fun _ _ _ h => h.mono s0 }⟩
theorem NamesOk.same {d : Nat} {rows : List (Row d)} {H H' : Hp} {nt : Addr} (c : NamesOk d rows H nt) (s : Same H H') : NamesOk d rows H' nt := by
  obtain ⟨a, b, c, ys, zs, gs, h0, h1, h2, h3, pm⟩ := c
  exact ⟨a, b, c, ys, zs, gs, s _ _ h0, s _ _ h1, s _ _ h2, s _ _ h3, pm⟩
theorem DraftOk.same {K : PySem.W.Frag} {H H' : Hp} {p dx C : Addr} {ka ks : List (Key × V)} {vi : V} {d : Nat} {rows : List (Row d)} (c : DraftOk K H p dx C ka ks vi d rows) (s : Same H H') : DraftOk K H' p dx C ka ks vi d rows := by
  obtain ⟨a, z, l, pl, nt, dx2, ys, h0, h1, h2, h3, h4, sh, h5, h6⟩ := c
  exact ⟨a, z, l, pl, nt, dx2, ys, s _ _ h0, s _ _ h1, s _ _ h2, s _ _ h3, h4.imp fun _ _ _ q => q.mono s, sh, h5.both s s, h6.same s⟩
/-- what stood before p was made is still out of the way -/
theorem nl_of {H HX : Hp} {p b : Addr} (sv : Sv H HX p) (h : NL HX b) (n : b ≠ p) : NL H b := fun o e => h o (sv b o e n)
def spDraft (K : PySem.W.Frag) (d : Nat) : Sp := fun vs H Q E => ∃ (p dx C : Addr) (vr va vg vi : V) (ed bi : Bool) (oa os : Option (List (Key × V))) (orows : Option (List (Row d))) (H0 : Hp), vs = [.ref p, vr, va, vg, vi, .bl ed] ∧ DCls K C ∧ H p = some (.ins C dx []) ∧ H0 p = none ∧ Same H0 H ∧ d ≤ 40 ∧
  TabArg K H0 "asks" 6 va oa ∧ TabArg K H0 "signals" 3 vg os ∧ (∀ H', Same H0 H' → WordsIs K H' 3 vi bi) ∧ RowsArg K H0 d vr orows ∧
  (∀ part path, outcome ed oa os bi d orows = some (part, path) → Refuses K (fun b => b = p ∨ va = .ref b ∨ vg = .ref b) H part path E) ∧
  (outcome ed oa os bi d orows = none → ∀ (ka ks : List (Key × V)) (rows : List (Row d)), oa = some ka → os = some ks → orows = some rows → ∀ (H' : Hp), Sv H H' p → DraftOk K (res (Own H p) H') p dx C ka ks vi d rows → Q .non H')
theorem words_alt {K : PySem.W.Frag} {H : Hp} {m : Int} {v : V} {b : Bool} (h : WordsIs K H m v b) : (∃ a ws, v = .ref a ∧ SqT K H a (ws.map V.str) ∧ (∀ z ∈ ws, z.length ≤ sizeLine) ∧ ws.length ≤ 1000 ∧ areW m ws = b) ∨ (NotA K H v "tuple" ∧ b = false) := by
  cases h with
  | tup h z few => exact .inl ⟨_, _, rfl, h, fun x hx => Nat.le_of_lt (small1000 (z x hx)), few, rfl⟩
  | no h => exact .inr ⟨h, rfl⟩
section
variable {P : Program} {w : World} {K : PySem.W.Frag} {mg : Str → Option Value} {base : Heap}
theorem ok_draft {k0 kc kd kp d : Nat} {f : Addr} {fd : FuncData} (F0 : FnP K "__init__" "Draft.__init__" s_Draft___init__ f fd) (T : Tx w K mg) (h5 : 5 ≤ k0) (hc : kc ≤ k0) (hd : kd ≤ k0) (hpk : kp + 1 ≤ k0)
    (E_InvalidProgram : ErrDef P w K mg base CX0 1 "InvalidProgram" (cIP K) ["self", "part", "path"] ["part", "path"]) (G_checked_table : Def P w K mg base (L2.CX P w) 4 "checked_table" p_checked_table (spTable K))
    (G_are_words : Def P w K mg base CX0 2 "are_words" p_are_words (spAreWords K)) (K_RowCheck : MkA P w K mg base CX0 1 "RowCheck" (He.ga K "RowCheck") [] p_RowCheck___init__ (spRCinit K))
    (M_check_rows : MDef P w K mg base (L2.CX P w) kc (He.ga K "RowCheck") "check_rows" p_RowCheck_check_rows (spCheckRows K d)) (G_copied : Def P w K mg base CX0 kd "copied" p_copied (spCopied K (d + 1)))
    (K_Plan : MkA P w K mg base CX0 kp "Plan" (He.ga K "Plan") [] p_Plan___init__ (spPlanInit K d)) (G_named_in : Def P w K mg base CX0 2 "named_in" p_named_in (spNamedIn K))
    (G_check_sizes : Def P w K mg base (L2.CX P w) 3 "check_sizes" p_check_sizes (spSizes K)) : FnOk P w K mg base (L2.CX P w) (k0 + 1) f fd p_Draft___init__ (spDraft K d) := by
  refine F0.ok sc_Draft___init__ (fun vs H Q E h => ?_) (fun cdv A outer s H vs Q E hr h => ?_)
  · obtain ⟨p, dx, C, vr, va, vg, vi, ed, _, _, _, _, _, rfl, _⟩ := h
    rfl
  · obtain ⟨p, dx, C, vr, va, vg, vi, ed, bi, oa, os, orows, H0, rfl, ⟨cc, cn⟩, hp, H0p, S0, fd, ta, tg, tw, rw_, ke, kq⟩ := h
    obtain ⟨t1, mMOST_ASKS⟩ := T.m_MOST_ASKS
    obtain ⟨t2, mMOST_SIGNALS⟩ := T.m_MOST_SIGNALS
    obtain ⟨t3, mMOST_INPUTS⟩ := T.m_MOST_INPUTS
    have sv0 : Sv H H p := fun b o hb _ => hb
    have freeS : ∀ {G : Hp} {b : Addr}, Sv H G p → G p ≠ none → G b = none → H b = none := fun {G b} sv np n => by
      cases q : H b with
      | none => rfl
      | some o => rw [sv b o q (fun z => np (z ▸ n))] at n; cases n
    have base0 : ∀ {H' : Hp}, Sv H H' p → Same H0 H' := fun sv b o e => sv b o (S0 b o e) (fun z => by rw [z, H0p] at e; cases e)
    have rf : ∀ {Hc : Hp} {C2 : Addr → Prop} {part : Str} {path : List Int}, Sv H Hc p → Hc p ≠ none → (∀ b, C2 b → b = p ∨ va = .ref b ∨ vg = .ref b ∨ H b = none) → outcome ed oa os bi d orows = some (part, path) → Refuses K C2 Hc part path E := fun {Hc C2 part path} sv np hC e dd t H' k nd hd2 ht => by
      refine ke part path e dd t H' (fun b o hb nb => ?_) ?_ hd2 ht
      · refine k b o (sv b o hb (fun z => nb (.inl z))) (fun c => ?_)
        rcases hC b c with z | z | z | z
        · exact nb (.inl z)
        · exact nb (.inr (.inl z))
        · exact nb (.inr (.inr z))
        · rw [hb] at z; cases z
      · cases q : H dd with
        | none => rfl
        | some o =>
          by_cases z : dd = p
          · exact absurd (z ▸ nd) np
          · rw [sv dd o q z] at nd; cases nd
    refine ⟨_, (pss_cons (ps_fld (pv 0) (pe_fn G_checked_table (hr.mono (by omega)) (by rfl) (passes_call (W := fun c d _ H => E c d H) (takes_of rfl rfl rfl rfl) (fun _ _ _ _ h => h)) (pa_cons (pv 2) (pa_cons pe_str (pa_cons (pe_glob (by rfl) mMOST_ASKS (show RelV (.int (6)) _ from ⟨_, rfl⟩)) pa_nil)))) rfl)
      (pss_cons (ps_fld (pv 0) (pe_fn G_checked_table (hr.mono (by omega)) (by rfl) (passes_call (W := fun c d _ H => E c d H) (takes_of rfl rfl rfl rfl) (fun _ _ _ _ h => h)) (pa_cons (pv 3) (pa_cons pe_str (pa_cons (pe_glob (by rfl) mMOST_SIGNALS (show RelV (.int (3)) _ from ⟨_, rfl⟩)) pa_nil)))) rfl)
      (pss_cons (ps_if (pt_not (pt_val (pe_fn G_are_words (hr.mono (by omega)) (by rfl) pass0 (pa_cons (pv 4) (pa_cons (pe_glob (by rfl) mMOST_INPUTS (show RelV (.int (3)) _ from ⟨_, rfl⟩)) pa_nil))))) (pss_one (ps_raise rfl (takes_of rfl rfl rfl rfl) (pmk_errL E_InvalidProgram (hr.mono (by omega)) (by rfl) pass0 (pa_cons pe_str (pa_cons (pe_tup pa_nil) pa_nil))))) pss_nil)
      (pss_cons (ps_fld (pv 0) (pv 4) rfl)
      (pss_cons (ps_expr (pe_mth M_check_rows (hr.mono (by omega)) (passes_call (W := fun c d _ H => E c d H) (takes_of rfl rfl rfl rfl) (fun _ _ _ _ h => h)) (pe_mkA K_RowCheck (hr.mono (by omega)) (by rfl) pass0 (pa_cons (pe_fld (pv 0) rfl) (pa_cons (pe_fld (pv 0) rfl) (pa_cons (pv 5) pa_nil)))) (pa_cons (pv 1) pa_nil)))
      (pss_cons (ps_fld (pv 0) (pe_fn G_copied (hr.mono (by omega)) (by rfl) pass0 (pa_cons (pv 1) pa_nil)) rfl)
      (pss_cons (ps_fld (pv 0) (pe_mkA K_Plan (hr.mono (by omega)) (by rfl) pass0 (pa_cons (pe_fld (pv 0) rfl) pa_nil)) rfl)
      (pss_cons (ps_fld (pv 0) (pe_fn G_named_in (hr.mono (by omega)) (by rfl) pass0 (pa_cons (pe_fld (pe_fld (pv 0) rfl) rfl) pa_nil)) rfl)
      (pss_one (ps_expr (pe_fn G_check_sizes (hr.mono (by omega)) (by rfl) (passes_call (W := fun c d _ H => E c d H) (takes_of rfl rfl rfl rfl) (fun _ _ _ _ h => h)) (pa_cons (pe_fld (pv 0) rfl) (pa_cons (pe_fld (pv 0) rfl) pa_nil))))))))))))), ?_⟩
    -- asks
    refine ⟨_, rfl, ?_⟩
    dsimp only [tCons, tC, tNil, List.append_nil]
    refine tab_call ta S0 (fun ka eka H1 d1 S1 n1 hd1 => ?_) (fun e => rf sv0 (by rw [hp]; simp) (fun b z => .inr (.inl z)) (by rw [e]; rfl))
    subst eka
    have p1 : p ≠ d1 := ne_of_none hp n1
    refine ⟨_, rfl, p, _, dx, _, rfl, S1 _ _ hp, cc, cn _ (by simp), (by show 0 < 1000; decide), ?_⟩
    have sv1 := (sv0.same S1).own (u := .ins C dx (putF "ask_table" (.ref d1) []))
    have hp1 : upd H1 p (.ins C dx (putF "ask_table" (.ref d1) [])) p = some (.ins C dx [("ask_table", .ref d1)]) := upd_same
    have hd1' : upd H1 p (.ins C dx (putF "ask_table" (.ref d1) [])) d1 = some (.dK ka) := by rw [upd_ne p1.symm]; exact hd1
    have Hd1 : H d1 = none := n1
    generalize upd H1 p (.ins C dx (putF "ask_table" (.ref d1) [])) = G1 at sv1 hp1 hd1' ⊢
    -- signals
    refine ⟨_, rfl, ?_⟩
    dsimp only [tCons, tC, tNil, List.append_nil]
    refine tab_call tg (base0 sv1) (fun ks eks H2 d2 S2 n2 hd2 => ?_) (fun e => rf sv1 (by rw [hp1]; simp) (fun b z => .inr (.inr (.inl z))) (by rw [e]; rfl))
    subst eks
    have p2 : p ≠ d2 := ne_of_none hp1 n2
    have Hd2 : H d2 = none := freeS sv1 (by rw [hp1]; simp) n2
    have d12 : d1 ≠ d2 := ne_of_none hd1' n2
    refine ⟨_, rfl, p, _, dx, _, rfl, S2 _ _ hp1, cc, cn _ (by simp), (by show 1 < 1000; decide), ?_⟩
    have sv2 := (sv1.same S2).own (u := .ins C dx (putF "signal_table" (.ref d2) [("ask_table", .ref d1)]))
    have hp2 : upd H2 p (.ins C dx (putF "signal_table" (.ref d2) [("ask_table", .ref d1)])) p = some (.ins C dx [("ask_table", .ref d1), ("signal_table", .ref d2)]) := upd_same
    have hd2' : upd H2 p (.ins C dx (putF "signal_table" (.ref d2) [("ask_table", .ref d1)])) d2 = some (.dK ks) := by rw [upd_ne p2.symm]; exact hd2
    have hd12 : upd H2 p (.ins C dx (putF "signal_table" (.ref d2) [("ask_table", .ref d1)])) d1 = some (.dK ka) := by rw [upd_ne p1.symm]; exact S2 _ _ hd1'
    generalize upd H2 p (.ins C dx (putF "signal_table" (.ref d2) [("ask_table", .ref d1)])) = G2 at sv2 hp2 hd2' hd12 ⊢
    -- inputs
    refine ⟨_, rfl, vi, 3, rfl, ?_⟩
    rcases words_alt (tw _ (base0 sv2)) with ⟨wa, ws, ev, hw, zw, fw, eb⟩ | ⟨hnw, rfl⟩
    rotate_left
    · refine .inr ⟨hnw, _, rfl, ?_⟩
      refine iteT ?_
      refine ⟨by show 0 ≤ sizeLine; decide, fun t nt => ⟨rfl, ?_⟩⟩
      exact refused0 (C := fun _ => False) (path := []) (Kp.of (Same.new nt)) (fun d0 n => (Same.new nt).free n) (SqT.of upd_same) (rf sv2 (by rw [hp2]; simp) (fun b z => z.elim) rfl)
    refine .inl ⟨wa, ws, ev, hw, zw, fw, fun H3 S3 => ?_⟩
    rw [eb]
    have hp3 := S3 _ _ hp2
    have sv3 := sv2.same S3
    refine ⟨_, rfl, ?_⟩
    cases bi with
    | false =>
      refine iteT ?_
      refine ⟨by show 0 ≤ sizeLine; decide, fun t nt => ⟨rfl, ?_⟩⟩
      exact refused0 (C := fun _ => False) (path := []) (Kp.of (Same.new nt)) (fun d0 n => (Same.new nt).free n) (SqT.of upd_same) (rf sv3 (by rw [hp3]; simp) (fun b z => z.elim) rfl)
    | true =>
    refine iteF ?_
    refine ⟨_, rfl, _, rfl, p, _, dx, _, rfl, hp3, cc, cn _ (by simp), (by show 2 < 1000; decide), ?_⟩
    have sv4 := sv3.own (u := .ins C dx (putF "input_words" vi [("ask_table", .ref d1), ("signal_table", .ref d2)]))
    have hp4 : upd H3 p (.ins C dx (putF "input_words" vi [("ask_table", .ref d1), ("signal_table", .ref d2)])) p = some (.ins C dx [("ask_table", .ref d1), ("signal_table", .ref d2), ("input_words", vi)]) := upd_same
    have hd14 : upd H3 p (.ins C dx (putF "input_words" vi [("ask_table", .ref d1), ("signal_table", .ref d2)])) d1 = some (.dK ka) := by rw [upd_ne p1.symm]; exact S3 _ _ hd12
    have hd24 : upd H3 p (.ins C dx (putF "input_words" vi [("ask_table", .ref d1), ("signal_table", .ref d2)])) d2 = some (.dK ks) := by rw [upd_ne p2.symm]; exact S3 _ _ hd2'
    generalize upd H3 p (.ins C dx (putF "input_words" vi [("ask_table", .ref d1), ("signal_table", .ref d2)])) = G4 at sv4 hp4 hd14 hd24 ⊢
    have fresh : ∀ {b : Addr}, G4 b = none → H b = none := fun {b} n => by
      cases q : H b with
      | none => rfl
      | some o =>
        by_cases z : b = p
        · rw [z, hp4] at n; cases n
        · rw [sv4 b o q z] at n; cases n
    -- the rows are checked
    refine ⟨_, rfl, p, _, dx, _, .ref d1, rfl, hp4, cc, cn _ (by simp), rfl, _, rfl, p, _, dx, _, .ref d2, rfl, hp4, cc, cn _ (by simp), rfl, _, rfl, fun x y nx ny nxy => ?_⟩
    have SX : Same G4 (upd (upd G4 y (.own x)) x (.ins (He.ga K "RowCheck") y [])) := by
      intro b o hb
      rw [upd_ne (ne_of_none hb nx), upd_ne (ne_of_none hb ny)]
      exact hb
    refine ⟨x, y, d1, d2, ed, rfl, upd_same, fun G5 e g k5 hx5 he5 hg5 eg5 ne5 ng5 => ⟨rfl, ?_⟩⟩
    have xG : ∀ {b : Addr} {o : HO}, G4 b = some o → b ≠ x := fun h => ne_of_none h nx
    have S5 : Same G4 G5 := fun b o hb => k5 b o (SX b o hb) (xG hb)
    have gfree : ∀ {b : Addr}, (upd (upd G4 y (.own x)) x (.ins (He.ga K "RowCheck") y [])) b = none → G4 b = none := fun n => SX.free n
    have ne4 := gfree ne5
    have ng4 := gfree ng5
    have rc5 : RC K G5 x ed ka ks ([], []) d1 d2 e g y := ⟨hx5, S5 _ _ hd14, S5 _ _ hd24, he5, hg5, eg5, ne_of_none hd14 ne4, ne_of_none hd14 ng4, ne_of_none hd24 ne4, ne_of_none hd24 ng4⟩
    have S05 : Same H0 G5 := (base0 sv4).trans S5
    have H0e : H0 e = none := (base0 sv4).free ne4
    have H0g : H0 g = none := (base0 sv4).free ng4
    have hp5 := S5 _ _ hp4
    refine ⟨x, y, _, rfl, hx5, rfl, _, rfl, ?_⟩
    refine ⟨x, vr, ed, ka, ks, ([], []), d1, d2, e, g, y, rfl, rc5, ?_⟩
    have rfe : ∀ {part : Str} {path : List Int}, outcome ed (some ka) (some ks) true d orows = some (part, path) → Refuses K (fun b => b = e ∨ b = g) G5 part path E := fun h => rf (sv4.same S5) (by rw [hp5]; simp) (fun b z => by
      rcases z with z | z
      · rw [z]; exact .inr (.inr (.inr (fresh ne4)))
      · rw [z]; exact .inr (.inr (.inr (fresh ng4)))) h
    cases rw_ with
    | bad h => exact .inl ⟨h _ S05, rfe rfl⟩
    | good hr0 ha0 prr lr few names =>
    rename_i r xs rows
    have eout : outcome ed (some ka) (some ks) true d (some rows) = (match (chk ed ka ks d false rows [] ([], [])).1 with
          | some path => some ("rows", path)
          | none => (fault4 (lsz d rows) (labelsN d rows) (slotsN d rows) (gatesN d rows)).map fun part => (part, [])) := rfl
    refine .inr ⟨r, H0, rows, xs, rfl, hr0, S05, H0e, H0g, ha0, prr, fd, by show 0 + lsz d rows ≤ 3000; omega, fun hn H6 k6 rc6 => ?_, fun path hpth => rfe (by rw [eout, hpth])⟩
    rw [hn] at eout
    have shape := chk_shape ed ka ks d false rows [] ([], []) hn prr
    have S46 : Same G4 H6 := fun b o hb => k6 b o (S5 _ _ hb) (by
      rintro (z | z)
      · rw [z, ne4] at hb; cases hb
      · rw [z, ng4] at hb; cases hb)
    have sv6 := sv4.same S46
    have hp6 := S46 _ _ hp4
    have S06 := base0 sv6
    -- copied
    refine ⟨_, rfl, r, H0, rows, xs, rfl, hr0, S06, ha0, lr, shape, fun H7 l1 ys S7 m1 hl1 hys => ?_⟩
    have q1 : p ≠ l1 := ne_of_none hp6 m1
    have hp7' := S7 _ _ hp6
    refine ⟨_, rfl, p, _, dx, _, rfl, hp7', cc, cn _ (by simp), (by show 3 < 1000; decide), ?_⟩
    have HnS : ∀ {b : Addr} {o : HO}, res (NL H6) H7 b = some o → H7 b = some o ∧ b ≠ p := fun {b o} h => by
      obtain ⟨c, e⟩ := res_some h
      refine ⟨e, fun z => ?_⟩
      subst z
      exact c.no hp6 rfl
    have HnO : ∀ {b : Addr} {o : HO}, res (NL H6) H7 b = some o → Own H p b := fun {b o} h => .inl (nl_of sv6 (res_some h).1 (HnS h).2)
    have Hnp : res (NL H6) H7 p = none := by
      cases q : res (NL H6) H7 p with
      | none => rfl
      | some o => exact absurd rfl (HnS q).2
    have sv7 := (sv6.same S7).own (u := .ins C dx (putF "row_list" (.ref l1) [("ask_table", .ref d1), ("signal_table", .ref d2), ("input_words", vi)]))
    have hp7 : upd H7 p (.ins C dx (putF "row_list" (.ref l1) [("ask_table", .ref d1), ("signal_table", .ref d2), ("input_words", vi)])) p = some (.ins C dx [("ask_table", .ref d1), ("signal_table", .ref d2), ("input_words", vi), ("row_list", .ref l1)]) := upd_same
    have Sn7 : Same (res (NL H6) H7) (upd H7 p (.ins C dx (putF "row_list" (.ref l1) [("ask_table", .ref d1), ("signal_table", .ref d2), ("input_words", vi)]))) := fun b o h => by rw [upd_ne (HnS h).2]; exact (HnS h).1
    have Hnl : res (NL H6) H7 l1 = some (.lst ys) := by rw [res_of (S := NL H6) (NL.new m1)]; exact hl1
    have k17 : ∀ (b : Addr) (o : HO), b ≠ p → H7 b = some o → upd H7 p (.ins C dx (putF "row_list" (.ref l1) [("ask_table", .ref d1), ("signal_table", .ref d2), ("input_words", vi)])) b = some o := fun b o n h => by rw [upd_ne n]; exact h
    generalize res (NL H6) H7 = Hn at HnS HnO Hnp Sn7 Hnl hys
    generalize upd H7 p (.ins C dx (putF "row_list" (.ref l1) [("ask_table", .ref d1), ("signal_table", .ref d2), ("input_words", vi)])) = G7 at sv7 hp7 Sn7 k17 ⊢
    have h17 : G7 d1 = some (.dK ka) := k17 d1 _ p1.symm (S7 _ _ (S46 _ _ hd14))
    have h27 : G7 d2 = some (.dK ks) := k17 d2 _ p2.symm (S7 _ _ (S46 _ _ hd24))
    -- the plan
    refine ⟨_, rfl, p, _, dx, _, .ref l1, rfl, hp7, cc, cn _ (by simp), rfl, fun x2 y2 nx2 ny2 nxy2 => ?_⟩
    have SX2 : Same G7 (upd (upd G7 y2 (.own x2)) x2 (.ins (He.ga K "Plan") y2 [])) := by
      intro b o hb
      rw [upd_ne (ne_of_none hb nx2), upd_ne (ne_of_none hb ny2)]
      exact hb
    have SvX : Sv H (upd (upd G7 y2 (.own x2)) x2 (.ins (He.ga K "Plan") y2 [])) p := sv7.same SX2
    have hpX := SX2 _ _ hp7
    have fx2 : H x2 = none := by
      cases q : H x2 with
      | none => rfl
      | some o => rw [sv7 x2 o q (fun z => by rw [z, hp7] at nx2; cases nx2)] at nx2; cases nx2
    refine ⟨x2, y2, l1, Hn, rows, ys, rfl, upd_same, Sn7.free nx2, Hnl, hys, Sn7.trans SX2, shape, fd, by omega, fun G8 sv8 po => ⟨rfl, ?_⟩⟩
    generalize upd (upd G7 y2 (.own x2)) x2 (.ins (He.ga K "Plan") y2 []) = GX at SX2 sv8 po SvX hpX
    have S8 : Same G7 G8 := fun b o hb => sv8 b o (SX2 b o hb) (ne_of_none hb nx2)
    have hp8 := S8 _ _ hp7
    refine ⟨_, rfl, p, _, dx, _, rfl, hp8, cc, cn _ (by simp), (by show 4 < 1000; decide), ?_⟩
    have xp : x2 ≠ p := (ne_of_none hp7 nx2).symm
    have SW : ∀ {Gf : Hp}, Sv G8 Gf p → Same (res (Own GX x2) G8) (res (Own H p) Gf) := fun {Gf} svf => same_res fun b o ob e => by
      rcases ob with nl | rfl
      · have bp : b ≠ p := fun z => by subst z; exact nl.no hpX rfl
        exact ⟨.inl (nl_of SvX nl bp), svf _ _ e bp⟩
      · exact ⟨.inl (NL.new fx2), svf _ _ e xp⟩
    have sv9 := (sv7.same S8).own (u := .ins C dx (putF "plan" (.ref x2) [("ask_table", .ref d1), ("signal_table", .ref d2), ("input_words", vi), ("row_list", .ref l1)]))
    have hp9 : upd G8 p (.ins C dx (putF "plan" (.ref x2) [("ask_table", .ref d1), ("signal_table", .ref d2), ("input_words", vi), ("row_list", .ref l1)])) p = some (.ins C dx [("ask_table", .ref d1), ("signal_table", .ref d2), ("input_words", vi), ("row_list", .ref l1), ("plan", .ref x2)]) := upd_same
    have other9 : ∀ {b : Addr} {o : HO}, G8 b = some o → b ≠ p → upd G8 p (.ins C dx (putF "plan" (.ref x2) [("ask_table", .ref d1), ("signal_table", .ref d2), ("input_words", vi), ("row_list", .ref l1)])) b = some o := fun h n => by rw [upd_ne n]; exact h
    have sv89 : Sv G8 (upd G8 p (.ins C dx (putF "plan" (.ref x2) [("ask_table", .ref d1), ("signal_table", .ref d2), ("input_words", vi), ("row_list", .ref l1)]))) p := Sv.own fun b o e _ => e
    obtain ⟨a1, a2, a3, a4, a5, a6, a7, F, pa, ce, cs, pat⟩ := id po
    have hx8 := (res_some pat.ob).2
    have hx9 := other9 hx8 xp
    have hf8 := (res_some pat.h1).2
    have hf9 := other9 hf8 (ne_of hf8 hp8 (by intro z; cases z))
    have Sn9 : Same Hn (upd G8 p (.ins C dx (putF "plan" (.ref x2) [("ask_table", .ref d1), ("signal_table", .ref d2), ("input_words", vi), ("row_list", .ref l1)]))) := fun b o h => other9 (S8 _ _ (Sn7 _ _ h)) (fun z => by rw [z, Hnp] at h; cases h)
    generalize upd G8 p (.ins C dx (putF "plan" (.ref x2) [("ask_table", .ref d1), ("signal_table", .ref d2), ("input_words", vi), ("row_list", .ref l1)])) = G9 at sv9 hp9 hx9 hf9 Sn9 sv89 ⊢
    -- the names
    have fok := flatL_ok shape
    have efl : (planOf d rows).fl = flatL d rows := by
      have g := (grew_layL d rows shape [] (-2) (-2) ⟨[], [], [], [], [], [if rows.length = 0 then -2 else 0]⟩ ⟨rfl, rfl, rfl, rfl⟩).f
      exact g
    refine ⟨_, rfl, p, _, dx, _, .ref x2, rfl, hp9, cc, cn _ (by simp), rfl, x2, _, y2, _, .ref a1, rfl, hx9, T.c_Plan, T.n_Plan_flat, rfl, a1, F, Hn, flatL d rows, rfl, hf9, efl ▸ pat.fl, Sn9, fok, names, fun GA nt na nb nc ls ss gs SA hnt nt0 hna hnb hnc pm1 pm2 pm3 f1 f2 f3 => ?_⟩
    have hpA := SA _ _ hp9
    refine ⟨_, rfl, p, _, dx, _, rfl, hpA, cc, cn _ (by simp), (by show 5 < 1000; decide), ?_⟩
    have svB := (sv9.same SA).own (u := .ins C dx (putF "name_table" (.ref nt) [("ask_table", .ref d1), ("signal_table", .ref d2), ("input_words", vi), ("row_list", .ref l1), ("plan", .ref x2)]))
    have hpB : upd GA p (.ins C dx (putF "name_table" (.ref nt) [("ask_table", .ref d1), ("signal_table", .ref d2), ("input_words", vi), ("row_list", .ref l1), ("plan", .ref x2)])) p = some (.ins C dx (draftF d1 d2 vi l1 x2 nt)) := upd_same
    have other : ∀ {b : Addr} {o : HO}, GA b = some o → b ≠ p → upd GA p (.ins C dx (putF "name_table" (.ref nt) [("ask_table", .ref d1), ("signal_table", .ref d2), ("input_words", vi), ("row_list", .ref l1), ("plan", .ref x2)])) b = some o := fun h n => by rw [upd_ne n]; exact h
    have ln : ∀ {b : Addr} {zs : List V}, GA b = some (.lst zs) → b ≠ p := fun h => ne_of h hpA (by intro z; cases z)
    have hxB := other (SA _ _ hx9) xp
    have hfB := other (SA _ _ hf9) (ne_of hf9 hp9 (by intro z; cases z))
    have hntB := other hnt (ne_of hnt hpA (by intro z; cases z))
    have hnaB := other hna (ln hna)
    have hnbB := other hnb (ln hnb)
    have hncB := other hnc (ln hnc)
    have SnB : Same Hn (upd GA p (.ins C dx (putF "name_table" (.ref nt) [("ask_table", .ref d1), ("signal_table", .ref d2), ("input_words", vi), ("row_list", .ref l1), ("plan", .ref x2)]))) := fun b o h => other (SA _ _ (Sn9 _ _ h)) (fun z => by rw [z, Hnp] at h; cases h)
    have SvAB : Sv G9 (upd GA p (.ins C dx (putF "name_table" (.ref nt) [("ask_table", .ref d1), ("signal_table", .ref d2), ("input_words", vi), ("row_list", .ref l1), ("plan", .ref x2)]))) p := Sv.own fun b o e _ => SA b o e
    generalize upd GA p (.ins C dx (putF "name_table" (.ref nt) [("ask_table", .ref d1), ("signal_table", .ref d2), ("input_words", vi), ("row_list", .ref l1), ("plan", .ref x2)])) = GB at svB hpB hxB hfB hntB hnaB hnbB hncB SnB SvAB ⊢
    have SnO : Same Hn (res (Own H p) GB) := fun b o h => by rw [res_of (S := Own H p) (HnO h)]; exact SnB b o h
    have e1 : F.length = lsz d rows := by rw [← flatL_len, ← efl]; exact pat.fl.len.symm
    have e2 : (ls.map V.str).length = labelsN d rows := by rw [List.length_map, pm1.length_eq]; rfl
    have e3 : ((ss.filter fun z : Str => decide (z ≠ "in")).map V.str).length = slotsN d rows := by rw [List.length_map, (pm2.filter _).length_eq]; rfl
    have e4 : (gs.map V.str).length = gatesN d rows := by rw [List.length_map, pm3.length_eq]; rfl
    refine ⟨_, rfl, p, _, dx, _, .ref x2, rfl, hpB, cc, cn _ (by simp), rfl, _, rfl, p, _, dx, _, .ref nt, rfl, hpB, cc, cn _ (by simp), rfl, ?_⟩
    refine ⟨x2, y2, nt, a1, na, nb, nc, F, _, _, _, _, rfl, hxB, hfB, hntB, hnaB, hnbB, hncB, fun fn => ?_, fun part fpt => ?_⟩
    · rw [e1, e2, e3, e4] at fn
      refine kq (by rw [eout, fn]; rfl) ka ks rows rfl rfl rfl GB svB ⟨d1, d2, l1, x2, nt, y2, ys, ?_, ?_, ?_, ?_, ?_, shape, po.both ?_ ?_, na, nb, nc, ls, ss, gs, ?_, ?_, ?_, ?_, pm1, pm2, pm3⟩
      · rw [res_of (S := Own H p) (.inr rfl)]; exact hpB
      · rw [res_of (S := Own H p) (.inl (NL.new Hd1))]; exact SvAB _ _ (sv89 _ _ (S8 _ _ h17) p1.symm) p1.symm
      · rw [res_of (S := Own H p) (.inl (NL.new Hd2))]; exact SvAB _ _ (sv89 _ _ (S8 _ _ h27) p2.symm) p2.symm
      · exact SnO _ _ Hnl
      · exact hys.imp fun _ _ _ q => q.mono SnO
      · exact SnO
      · exact SW fun b o e nb => SvAB b o (sv89 b o e nb) nb
      · rw [res_of (S := Own H p) (.inl (NL.new (freeS sv9 (by rw [hp9]; simp) nt0)))]; exact hntB
      · rw [res_of (S := Own H p) (.inl (NL.new (freeS sv9 (by rw [hp9]; simp) f1)))]; exact hnaB
      · rw [res_of (S := Own H p) (.inl (NL.new (freeS sv9 (by rw [hp9]; simp) f2)))]; exact hnbB
      · rw [res_of (S := Own H p) (.inl (NL.new (freeS sv9 (by rw [hp9]; simp) f3)))]; exact hncB
    · rw [e1, e2, e3, e4] at fpt
      exact rf svB (by rw [hpB]; simp) (fun b z => z.elim) (by rw [eout, fpt]; rfl)
end
end OR

set_option Elab.async false
set_option maxRecDepth 100000
set_option maxHeartbeats 8000000
set_option linter.all false
namespace L2
open PySem PySem.Spec PyProof.Rows
section
variable {X : Cx} {CX : CXT} {k n : Nat} {f C : Addr} {fd : FuncData} {ps ks : List Str} {sp : Sp} {E : St → XK} {x : Str} {p pos : Pos} {e : Expr} {es : List Expr} {kws : List Keyword} {t tk : TA} {g : List Value → List Value → List Value} {gV : List V → List V → List V}
/-- C(e, .., k = v, ..) that may raise: the caller's wish at its slots -/
def tMakeKS (C : Addr) (n m : Nat) (sp : Sp) (gV : List V → List V → List V) (E : St → XK) (t tk : TA) : TE := fun σ H Q => t σ H fun vs H1 => tk σ H1 fun zs H2 => vs.length = n ∧ zs.length = m ∧ ∀ x dx, H2 x = none → H2 dx = none → dx ≠ x →
  sp (gV (.ref x :: vs) zs) (upd (upd H2 dx (.own x)) x (.ins C dx [])) (fun v H3 => v = .non ∧ Q (.ref x) H3) (E σ)
theorem pe_makeKS (M : Mk X.K C f) (F : FnOk X.prog X.w X.K X.mg X.base CX k f fd ps sp) (hr : Room (k + 1) X.A) (hg : Gl X x) (hm : X.mg x = some (.ref C)) (hb : KBn X.K fd ps (n + 1) ks g gV) (hx : ∀ σ, PassesAt CX X σ (E σ)) (ha : PA X (e :: es) t) (hkw : PK X kws tk)
    (hall : (backToKw pos (keywordEach kws X.env)).all (·.1.isSome) = true := by rfl) (hks : (backToKw pos (keywordEach kws X.env)).filterMap (·.1) = ks := by rfl) (hdb : (x == ("__debug__" : Str)) = false := by decide)
    (he : starEach (e :: es) X.env = (false, eval e X.env) :: starEach es X.env := by rfl) (hpl : ((backTo pos (starEach (e :: es) X.env)).any (·.1) || (backToKw pos (keywordEach kws X.env)).any (·.1.isNone)) = false := by rfl) :
    PE X (.Call (.Name x p) (e :: es) kws pos) (tMakeKS C n ks.length sp gV E t tk) := by
  refine ⟨fun pins s σ H Q I h => ?_⟩
  refine wpAny_Call_Name_kw (ld_glob I hg hm ?_ hdb)
  refine PySem.W.callWith_KW (h₀ := X.base) I.ok.mod.kin M.kp hall (thn (ha.run pos pins s σ H _ I h) fun us s1 ⟨vs, H1, I1, r, q⟩ => ?_) hpl he
  refine thn (hkw.run pos pins s1 σ H1 _ I1 q) fun ws s2 ⟨zs, H2, I2, rz, l1, l2, q2⟩ => ⟨I2.kIn, ?_⟩
  rw [hks]
  have hq := q2 (s2.heap.objs.size + 1) s2.heap.objs.size (I2.hok.fresh (Nat.le_succ _)) (I2.hok.fresh (Nat.le_refl _)) (Nat.ne_of_lt (Nat.lt_succ_self _))
  have I3 := Inv.made (C := C) I2
  have r1 : Vals (V.ref (s2.heap.objs.size + 1) :: vs) (Value.ref (s2.heap.objs.size + 1) :: us) := .cons rfl r
  have r2 := hb.rel r1 rz
  have n1 : (Value.ref (s2.heap.objs.size + 1) :: us).length = n + 1 := by rw [List.length_cons, ← r.length, l1]
  refine wpAny_call (make_map (f := f) I2.kIn M.makes M.init (beq_iff_eq.mp M.fn) (codeAny_mono (F.run _ X.stack _ _ ⟨Value.ref (s2.heap.objs.size + 1) :: us, ks.zip ws⟩ (g (Value.ref (s2.heap.objs.size + 1) :: us) ws) _ _ (E σ) (hr.make C us (ks.zip ws))
    (I3.env0.make C us (ks.zip ws)) (hb.to _ (Value.ref (s2.heap.objs.size + 1) :: us) ws I3.kIn n1 (rz.length.symm.trans l2)) r2 hq) fun r s' hq' => ?_))
  cases r with
  | error er => exact hx σ pins _ _ er s' I3 hq'
  | ok fl =>
    cases fl with
    | ret u =>
      obtain ⟨v, H', I4, rv, ev, q3⟩ := I3.after hq'
      subst ev
      exact ⟨rv, ⟨V.ref (s2.heap.objs.size + 1), H', I4, rfl, q3⟩⟩
    | next => exact False.elim hq'
    | brk => exact False.elim hq'
    | cont => exact False.elim hq'
end
end L2
namespace OR
open PySem PySem.Spec PyProof.Rows L2 TS2
structure DArgs (K : PySem.W.Frag) (H0 : Hp) (d : Nat) (vr va vg vi : V) (oa os : Option (List (Key × V))) (bi : Bool) (orows : Option (List (Row d))) : Prop where
  a : TabArg K H0 "asks" 6 va oa
  s : TabArg K H0 "signals" 3 vg os
  i : ∀ H', Same H0 H' → WordsIs K H' 3 vi bi
  r : RowsArg K H0 d vr orows
def spProgInit (K : PySem.W.Frag) (d : Nat) : Sp := fun vs H Q E => ∃ (p dx : Addr) (vr va vg vi : V) (bi : Bool) (oa os : Option (List (Key × V))) (orows : Option (List (Row d))) (H0 : Hp), vs = [.ref p, vr, va, vg, vi] ∧ H p = some (.ins (He.ga K "Program") dx []) ∧ H0 p = none ∧ Same H0 H ∧ d ≤ 40 ∧ DArgs K H0 d vr va vg vi oa os bi orows ∧
  (∀ part path, outcome false oa os bi d orows = some (part, path) → Refuses K (fun b => b = p ∨ va = .ref b ∨ vg = .ref b) H part path E) ∧ (outcome false oa os bi d orows = none → ∀ (ka ks : List (Key × V)) (rows : List (Row d)), oa = some ka → os = some ks → orows = some rows → ∀ (H' : Hp), Sv H H' p → DraftOk K (res (Own H p) H') p dx (He.ga K "Program") ka ks vi d rows → Q .non H')
section
variable {P : Program} {w : World} {K : PySem.W.Frag} {mg : Str → Option Value} {base : Heap}
theorem ok_program {k0 d : Nat} {f : Addr} {fd : FuncData} {kws : List (Str × V)} (F : FunD K "__init__" "Program.__init__" (defArgs s_Program___init__) (defBody s_Program___init__) (defScope s_Program___init__) [] kws f fd) (T : Tx w K mg) (dc : DCls K (He.ga K "Program"))
    (C_Draft : CFun P w K mg base (L2.CX P w) k0 "Draft" (He.ga K "Draft") "__init__" p_Draft___init__ (spDraft K d)) : FnOk P w K mg base (L2.CX P w) (k0 + 1) f fd p_Program___init__ (spProgInit K d) := by
  refine F.ok sc_Program___init__ (fun vs H Q E h => ?_) (fun cdv A outer s H vs Q E hr h => ?_)
  · obtain ⟨p, dx, vr, va, vg, vi, _, _, _, _, _, rfl, _⟩ := h
    rfl
  · obtain ⟨p, dx, vr, va, vg, vi, bi, oa, os, orows, H0, rfl, hp, H0p, S0, fd', ar, ke, kq⟩ := h
    refine ⟨_, (pss_one (ps_expr (pe_cfun C_Draft (hr.mono (by omega)) (by rfl) (passes_call (W := fun c d _ H => E c d H) (takes_of rfl rfl rfl rfl) (fun _ _ _ _ h => h)) (pa_cons (pv 0) (pa_cons (pv 1) (pa_cons (pv 2) (pa_cons (pv 3) (pa_cons (pv 4) (pa_cons pe_bl pa_nil))))))))), ?_⟩
    exact ⟨_, rfl, _, rfl, _, rfl, _, rfl, _, rfl, p, dx, _, vr, va, vg, vi, false, bi, oa, os, orows, H0, rfl, dc, hp, H0p, S0, fd', ar.a, ar.s, ar.i, ar.r, ke, kq⟩
end
end OR

set_option Elab.async false
set_option maxRecDepth 100000
set_option maxHeartbeats 4000000
set_option linter.all false
namespace OR
open PySem PySem.Spec PyProof.Rows L2 TS2
/-! ### the paths of rows -/
def pK {R : Type} (f : List R → List Int → List (List Int)) (path : List Int) : List (List R) → Nat → List (List Int)
  | [], _ => []
  | l :: ls, j => f l (path ++ [(j : Int)]) ++ pK f path ls (j + 1)
def pS {R : Type} (g : R → List Int → List (List Int)) (pre : List Int) : List R → Nat → List (List Int)
  | [], _ => []
  | r :: rs, i => g r (pre ++ [(i : Int)]) ++ pS g pre rs (i + 1)
def pathsR : (d : Nat) → Row d → List Int → List (List Int)
  | 0, r, _ => nomatch r
  | d + 1, r, path => path :: pK (fun l pre => pS (pathsR d) pre l 0) path (kids r.2) 0
def pathsL (d : Nat) (rows : List (Row d)) (pre : List Int) : List (List Int) := pS (pathsR d) pre rows 0
theorem first_pl (P : PM) (w : Str) (here : Nat) (x : Int) : (P.first w here x).pl = P.pl := by
  unfold PM.first
  split <;> rfl
theorem pl_layK {R : Type} {f : List R → List Int → Int → Int → PM → PM} {g : List R → List Int → List (List Int)} {w : Str} {here : Nat} {path : List Int} {b ex : Int} : ∀ (ls : List (List R)) (j : Nat) (P : PM), (∀ l ∈ ls, ∀ pre e x P, (f l pre e x P).pl = P.pl ++ g l pre) →
    (layK f w here path b ex ls j P).pl = P.pl ++ pK g path ls j
  | [], j, P, _ => by simp [layK, pK]
  | l :: ls, j, P, k => by
    unfold layK pK
    rw [pl_layK ls (j + 1) _ fun l' hl' => k l' (List.mem_cons_of_mem _ hl'), k l List.mem_cons_self, first_pl, List.append_assoc]
theorem pl_layS {R : Type} {f : R → List Int → Int → Int → PM → PM} {g : R → List Int → List (List Int)} {sz : R → Nat} {n : Nat} {pre : List Int} {e ex : Int} : ∀ (rs : List R) (i : Nat) (P : PM), (∀ r ∈ rs, ∀ path b x P, (f r path b x P).pl = P.pl ++ g r path) →
    (layS f sz n pre e ex rs i P).pl = P.pl ++ pS g pre rs i
  | [], i, P, _ => by simp [layS, pS]
  | r :: rs, i, P, k => by
    unfold layS pS
    rw [pl_layS rs (i + 1) _ fun l' hl' => k l' (List.mem_cons_of_mem _ hl'), k r List.mem_cons_self, List.append_assoc]
theorem pl_layR : ∀ (d : Nat) (r : Row d) (path : List Int) (b ex : Int) (P : PM), (layR d r path b ex P).pl = P.pl ++ pathsR d r path
  | 0, r, _, _, _, _ => nomatch r
  | d + 1, r, path, b, ex, P => by
    unfold layR pathsR
    rw [pl_layK (g := fun l pre => pS (pathsR d) pre l 0) (kids r.2) 0 _ fun l _ pre e x P => pl_layS l 0 P fun r' _ path b x P => pl_layR d r' path b x P]
    show (P.pl ++ [path]) ++ _ = _
    rw [List.append_assoc]
    rfl
theorem pl_plan (d : Nat) (rows : List (Row d)) : (planOf d rows).pl = pathsL d rows [] := by
  unfold planOf layL pathsL
  rw [pl_layS (g := pathsR d) rows 0 _ fun r _ path b x P => pl_layR d r path b x P]
  rfl
theorem fl_plan {d : Nat} {rows : List (Row d)} (sh : ∀ r ∈ rows, Shape d r) : (planOf d rows).fl = flatL d rows :=
  (grew_layL d rows sh [] (-2) (-2) ⟨[], [], [], [], [], [if rows.length = 0 then -2 else 0]⟩ ⟨rfl, rfl, rfl, rfl⟩).f
/-- the row at a path -/
def At : (d : Nat) → List (Row d) → List Int → AnyRow → Prop
  | 0, _, _, _ => False
  | _ + 1, _, [], _ => False
  | d + 1, rows, [i], x => ∃ r, rows[i.toNat]? = some r ∧ 0 ≤ i ∧ x = ⟨d, r⟩
  | d + 1, rows, i :: j :: rest, x => ∃ (r : Row (d + 1)) (l : List (Row d)), rows[i.toNat]? = some r ∧ 0 ≤ i ∧ (kids r.2)[j.toNat]? = some l ∧ 0 ≤ j ∧ At d l rest x
theorem all2_mono {α β : Type} {R R' : α → β → Prop} {xs : List α} {ys : List β} (h : All2 R xs ys) (f : ∀ x y, R x y → R' x y) : All2 R' xs ys := h.imp fun x y _ q => f x y q
theorem at_pK {R : Type} {S : List Int → AnyRow → Prop} {g : List R → List Int → List (List Int)} {fl : List R → List AnyRow} {path : List Int} : ∀ (ls : List (List R)) (j : Nat), (∀ (i : Nat) (l : List R), ls[i]? = some l → All2 (fun p x => ∃ q, p = (path ++ [((i + j : Nat) : Int)]) ++ q ∧ S (((i + j : Nat) : Int) :: q) x) (g l (path ++ [((i + j : Nat) : Int)])) (fl l)) →
    All2 (fun p x => ∃ q, p = path ++ q ∧ S q x) (pK g path ls j) ((ls.map fl).flatten)
  | [], j, _ => .nil
  | l :: ls, j, h => by
    unfold pK
    rw [List.map_cons, List.flatten_cons]
    have h0 := h 0 l rfl
    rw [show (0 + j : Nat) = j by omega] at h0
    refine (all2_mono h0 fun p x ⟨q, e, s⟩ => ⟨(j : Int) :: q, ?_, s⟩).app (at_pK ls (j + 1) fun i l' hi => ?_)
    · rw [e]; simp
    · have := h (i + 1) l' hi
      rw [show (i + 1 + j : Nat) = i + (j + 1) by omega] at this
      exact this
theorem at_pS {R : Type} {S : List Int → AnyRow → Prop} {g : R → List Int → List (List Int)} {fl : R → List AnyRow} {pre : List Int} : ∀ (rs : List R) (j : Nat), (∀ (i : Nat) (r : R), rs[i]? = some r → All2 (fun p x => ∃ q, p = (pre ++ [((i + j : Nat) : Int)]) ++ q ∧ S (((i + j : Nat) : Int) :: q) x) (g r (pre ++ [((i + j : Nat) : Int)])) (fl r)) →
    All2 (fun p x => ∃ q, p = pre ++ q ∧ S q x) (pS g pre rs j) ((rs.map fl).flatten)
  | [], j, _ => .nil
  | r :: rs, j, h => by
    unfold pS
    rw [List.map_cons, List.flatten_cons]
    have h0 := h 0 r rfl
    rw [show (0 + j : Nat) = j by omega] at h0
    refine (all2_mono h0 fun p x ⟨q, e, s⟩ => ⟨(j : Int) :: q, ?_, s⟩).app (at_pS rs (j + 1) fun i l' hi => ?_)
    · rw [e]; simp
    · have := h (i + 1) l' hi
      rw [show (i + 1 + j : Nat) = i + (j + 1) by omega] at this
      exact this
theorem at_L : ∀ (d : Nat) (rows : List (Row d)) (pre : List Int), All2 (fun p x => ∃ q, p = pre ++ q ∧ At d rows q x) (pathsL d rows pre) (flatL d rows)
  | 0, [], pre => .nil
  | 0, r :: _, _ => nomatch r
  | d + 1, rows, pre => by
    unfold pathsL flatL
    refine at_pS rows 0 fun i r hi => ?_
    show All2 _ (_ :: _) (_ :: _)
    refine .cons ⟨[], by simp, r, ?_, Int.natCast_nonneg _, rfl⟩ ?_
    · rw [Int.toNat_natCast]; exact hi
    · refine at_pK (S := fun q x => At (d + 1) rows (((i + 0 : Nat) : Int) :: q) x) (kids r.2) 0 fun j l hj => ?_
      refine all2_mono (at_L d l _) fun p x ⟨q, e, a⟩ => ⟨q, e, ?_⟩
      cases q with
      | nil => cases d <;> exact a.elim
      | cons y ys => exact ⟨r, l, by rw [Int.toNat_natCast]; exact hi, Int.natCast_nonneg _, by rw [Int.toNat_natCast]; exact hj, Int.natCast_nonneg _, a⟩
/-! ### they ascend -/
def lexL : List Int → List Int → Prop
  | [], [] => False
  | [], _ :: _ => True
  | _ :: _, [] => False
  | a :: s, b :: t => a < b ∨ (a = b ∧ lexL s t)
theorem lexL_pre : ∀ (p a b : List Int), lexL (p ++ a) (p ++ b) ↔ lexL a b
  | [], a, b => Iff.rfl
  | x :: p, a, b => by
    show (x < x ∨ (x = x ∧ lexL (p ++ a) (p ++ b))) ↔ _
    rw [lexL_pre p a b]
    constructor
    · rintro (h | ⟨_, h⟩)
      · omega
      · exact h
    · exact fun h => .inr ⟨rfl, h⟩
theorem lexL_irr : ∀ a : List Int, ¬ lexL a a
  | [], h => h
  | x :: a, h => by
    rcases h with h | ⟨_, h⟩
    · omega
    · exact lexL_irr a h
def Asc (l : List (List Int)) : Prop := l.Pairwise lexL
theorem pw_app {α : Type} {R : α → α → Prop} {a b : List α} (ha : a.Pairwise R) (hb : b.Pairwise R) (h : ∀ x ∈ a, ∀ y ∈ b, R x y) : (a ++ b).Pairwise R := List.pairwise_append.mpr ⟨ha, hb, h⟩
theorem asc_pK {R : Type} {g : List R → List Int → List (List Int)} {path : List Int} : ∀ (ls : List (List R)) (j : Nat), (∀ l ∈ ls, ∀ pre, Asc (g l pre) ∧ ∀ p ∈ g l pre, ∃ q, p = pre ++ q) → Asc (pK g path ls j) ∧ ∀ p ∈ pK g path ls j, ∃ (m : Nat) (q : List Int), j ≤ m ∧ p = path ++ ((m : Int) :: q)
  | [], j, _ => ⟨.nil, fun p hp => by simp [pK] at hp⟩
  | l :: ls, j, h => by
    unfold pK
    obtain ⟨a1, b1⟩ := h l List.mem_cons_self (path ++ [(j : Int)])
    obtain ⟨a2, b2⟩ := asc_pK (g := g) (path := path) ls (j + 1) fun l' hl' => h l' (List.mem_cons_of_mem _ hl')
    refine ⟨pw_app a1 a2 fun x hx y hy => ?_, fun p hp => ?_⟩
    · obtain ⟨q1, e1⟩ := b1 x hx
      obtain ⟨m, q2, hm, e2⟩ := b2 y hy
      rw [e1, e2, List.append_assoc]
      refine (lexL_pre _ _ _).mpr ?_
      exact .inl (by omega)
    · rcases List.mem_append.mp hp with hp | hp
      · obtain ⟨q, e⟩ := b1 p hp
        exact ⟨j, q, Nat.le_refl _, by rw [e]; simp⟩
      · obtain ⟨m, q, hm, e⟩ := b2 p hp
        exact ⟨m, q, by omega, e⟩
theorem asc_pS {R : Type} {g : R → List Int → List (List Int)} {pre : List Int} : ∀ (rs : List R) (j : Nat), (∀ r ∈ rs, ∀ path, Asc (g r path) ∧ ∀ p ∈ g r path, ∃ q, p = path ++ q) → Asc (pS g pre rs j) ∧ ∀ p ∈ pS g pre rs j, ∃ (m : Nat) (q : List Int), j ≤ m ∧ p = pre ++ ((m : Int) :: q)
  | [], j, _ => ⟨.nil, fun p hp => by simp [pS] at hp⟩
  | l :: ls, j, h => by
    unfold pS
    obtain ⟨a1, b1⟩ := h l List.mem_cons_self (pre ++ [(j : Int)])
    obtain ⟨a2, b2⟩ := asc_pS (g := g) (pre := pre) ls (j + 1) fun l' hl' => h l' (List.mem_cons_of_mem _ hl')
    refine ⟨pw_app a1 a2 fun x hx y hy => ?_, fun p hp => ?_⟩
    · obtain ⟨q1, e1⟩ := b1 x hx
      obtain ⟨m, q2, hm, e2⟩ := b2 y hy
      rw [e1, e2, List.append_assoc]
      refine (lexL_pre _ _ _).mpr ?_
      exact .inl (by omega)
    · rcases List.mem_append.mp hp with hp | hp
      · obtain ⟨q, e⟩ := b1 p hp
        exact ⟨j, q, Nat.le_refl _, by rw [e]; simp⟩
      · obtain ⟨m, q, hm, e⟩ := b2 p hp
        exact ⟨m, q, by omega, e⟩
theorem asc_R : ∀ (d : Nat) (r : Row d) (path : List Int), Asc (pathsR d r path) ∧ ∀ p ∈ pathsR d r path, ∃ q, p = path ++ q
  | 0, r, _ => nomatch r
  | d + 1, r, path => by
    unfold pathsR
    obtain ⟨a, b⟩ := asc_pK (g := fun l pre => pS (pathsR d) pre l 0) (path := path) (kids r.2) 0 fun l _ pre => by
      obtain ⟨a, b⟩ := asc_pS (g := pathsR d) (pre := pre) l 0 fun r' _ path => asc_R d r' path
      exact ⟨a, fun p hp => by obtain ⟨m, q, _, e⟩ := b p hp; exact ⟨_, e⟩⟩
    refine ⟨List.pairwise_cons.mpr ⟨fun y hy => ?_, a⟩, fun p hp => ?_⟩
    · obtain ⟨m, q, _, e⟩ := b y hy
      rw [e]
      have := (lexL_pre path [] ((m : Int) :: q)).mpr True.intro
      rw [List.append_nil] at this
      exact this
    · rcases List.mem_cons.mp hp with rfl | hp
      · exact ⟨[], by simp⟩
      · obtain ⟨m, q, _, e⟩ := b p hp
        exact ⟨_, e⟩
theorem asc_L (d : Nat) (rows : List (Row d)) (pre : List Int) : Asc (pathsL d rows pre) ∧ ∀ p ∈ pathsL d rows pre, ∃ (m : Nat) (q : List Int), p = pre ++ ((m : Int) :: q) := by
  obtain ⟨a, b⟩ := asc_pS (g := pathsR d) (pre := pre) rows 0 fun r' _ path => asc_R d r' path
  exact ⟨a, fun p hp => by obtain ⟨m, q, _, e⟩ := b p hp; exact ⟨m, q, e⟩⟩
theorem Asc.nodup {l : List (List Int)} (h : Asc l) : l.Nodup := h.imp fun {a b} q e => by subst e; exact lexL_irr _ q
/-! ### numbers of paths -/
theorem inl_inj {a b : List Int} (h : (a.map Sum.inl : List Key) = b.map Sum.inl) : a = b := by
  induction a generalizing b with
  | nil => cases b with
    | nil => rfl
    | cons y b => simp at h
  | cons x a ih => cases b with
    | nil => simp at h
    | cons y b =>
      simp only [List.map_cons, List.cons.injEq, Sum.inl.injEq] at h
      rw [h.1, ih h.2]
theorem nums_fold (ns : List Int) : ∀ (l : List (List Int × Nat)) (acc : List (List Key × V)), (∀ x ∈ l, x.1 ≠ ns) → valV (l.foldl numStep acc) (ns.map Sum.inl : List Key) = valV acc (ns.map Sum.inl : List Key)
  | [], acc, _ => rfl
  | x :: l, acc, h => by
    rw [List.foldl_cons, nums_fold ns l _ fun y hy => h y (List.mem_cons_of_mem _ hy)]
    unfold numStep
    rw [valV_put, if_neg fun e => h x List.mem_cons_self (inl_inj e).symm]
theorem nums_none {pl : List (List Int)} {ns : List Int} (h : ns ∉ pl) : valV (numsOf pl) (ns.map Sum.inl : List Key) = none := by
  unfold numsOf
  rw [nums_fold ns _ _ fun x hx e => h ?_]
  · rfl
  · obtain ⟨i, hi⟩ := List.getElem?_of_mem hx
    rw [List.getElem?_zipIdx] at hi
    cases q : pl[i]? with
    | none => rw [q] at hi; simp at hi
    | some y =>
      rw [q] at hi
      have := Option.some.inj hi
      rw [← e, ← this]
      exact List.mem_of_getElem? q
theorem nums_some {pl : List (List Int)} (nd : pl.Nodup) {i : Nat} {ns : List Int} (h : pl[i]? = some ns) : valV (numsOf pl) (ns.map Sum.inl : List Key) = some (.int (i : Nat)) := by
  have lt : i < pl.length := (List.getElem?_eq_some_iff.mp h).1
  have hz : pl.zipIdx[i]? = some (ns, i) := by rw [List.getElem?_zipIdx, h]; simp
  unfold numsOf
  have e : pl.zipIdx = pl.zipIdx.take i ++ (ns, i) :: pl.zipIdx.drop (i + 1) := by
    conv => lhs; rw [← List.take_append_drop i pl.zipIdx]
    congr 1
    obtain ⟨l2, e2⟩ := List.getElem?_eq_some_iff.mp hz
    rw [List.drop_eq_getElem_cons l2, e2]
  rw [e, List.foldl_append, List.foldl_cons, nums_fold ns]
  · unfold numStep
    rw [valV_put, if_pos rfl]
  · intro x hx e2
    obtain ⟨j, hj⟩ := List.getElem?_of_mem hx
    rw [List.getElem?_drop, List.getElem?_zipIdx] at hj
    cases q : pl[i + 1 + j]? with
    | none => rw [q] at hj; simp at hj
    | some y =>
      rw [q] at hj
      have e3 := Option.some.inj hj
      have e4 : y = ns := by rw [← e2, ← e3]
      subst e4
      have l2 := (List.getElem?_eq_some_iff.mp q).1
      have l3 := List.pairwise_iff_getElem.mp nd i (i + 1 + j) lt l2 (by omega)
      rw [List.getElem?_eq_getElem lt] at h
      rw [List.getElem?_eq_getElem l2] at q
      exact l3 (by rw [Option.some.inj h, Option.some.inj q])
theorem nums_is {pl : List (List Int)} (nd : pl.Nodup) (ns : List Int) : (valV (numsOf pl) (ns.map Sum.inl : List Key)).isSome = decide (ns ∈ pl) := by
  by_cases c : ns ∈ pl
  · obtain ⟨i, hi⟩ := List.getElem?_of_mem c
    rw [nums_some nd hi, decide_eq_true c]
    rfl
  · rw [nums_none c, decide_eq_false c]
    rfl
end OR

set_option Elab.async false
set_option maxRecDepth 100000
set_option maxHeartbeats 8000000
set_option linter.all false
namespace OR
open PySem PySem.Spec PyProof.Rows L2 TS2
/-- raised: an own error with these fields -/
def Rz (C : Addr) (kvs : List (Str × V)) (Cs : Addr → Prop) (H : Hp) (E : XK) : Prop := ∀ (d0 : Addr) (H' : Hp), Kp Cs H H' → H d0 = none → H' d0 = some (.xd kvs) → E (.ref C) (some d0) H'
theorem Rz.of {C : Addr} {kvs : List (Str × V)} {Cs Cs' : Addr → Prop} {H H1 : Hp} {E : XK} (r : Rz C kvs Cs H E) (k : Kp Cs H H1) (f : ∀ b, H1 b = none → H b = none) (h : ∀ b, Cs' b → Cs b ∨ H b = none) : Rz C kvs Cs' H1 E := fun d0 H' k' n e =>
  r d0 H' (fun b o hb nb => k' b o (k b o hb nb) fun c => by rcases h b c with z | z; exact nb z; rw [hb] at z; cases z) (f _ n) e
theorem rz_now {C : Addr} {kvs : List (Str × V)} {Cs : Addr → Prop} {H H' : Hp} {E : XK} {d0 : Addr} (r : Rz C kvs Cs H E) (nd : H d0 = none) (hd : H' d0 = some (.xd kvs)) (oth : ∀ b, b ≠ d0 → H' b = H b) : E (.ref C) (some d0) H' :=
  r d0 H' (fun b o hb _ => by rw [oth b (ne_of_none hb nd)]; exact hb) nd hd
abbrev cIA (K : PySem.W.Frag) : Addr := He.ga K "InvalidArgument"
/-- a program stands at p -/
def PgAt (K : PySem.W.Frag) (H : Hp) (p : Addr) (ka ks : List (Key × V)) (vi : V) (d : Nat) (rows : List (Row d)) : Prop := ∃ Hr dx, DraftOk K Hr p dx (He.ga K "Program") ka ks vi d rows ∧ Same Hr H
theorem PgAt.same {K : PySem.W.Frag} {H H' : Hp} {p : Addr} {ka ks : List (Key × V)} {vi : V} {d : Nat} {rows : List (Row d)} (h : PgAt K H p ka ks vi d rows) (s : Same H H') : PgAt K H' p ka ks vi d rows := by
  obtain ⟨Hr, dx, c, S⟩ := h
  exact ⟨Hr, dx, c, S.trans s⟩
/-- whether a value is an integer, as the code tells it -/
def IntIs (K : PySem.W.Frag) (H : Hp) (v : V) (b : Bool) : Prop := (∃ i, v = .int i ∧ b = true) ∨ (∃ c, v = .bl c ∧ b = false) ∨ ((∀ H', Same H H' → NotA K H' v "int") ∧ b = false)
theorem IntIs.same {K : PySem.W.Frag} {H H' : Hp} {v : V} {b : Bool} (h : IntIs K H v b) (s : Same H H') : IntIs K H' v b := by
  rcases h with h | h | ⟨h, e⟩
  · exact .inl h
  · exact .inr (.inl h)
  · exact .inr (.inr ⟨fun H'' s' => h H'' (s.trans s'), e⟩)
def spIsIntG (K : PySem.W.Frag) : Sp := fun vs H Q _ => ∃ (v : V) (b : Bool), vs = [v] ∧ IntIs K H v b ∧ Q (.bl b) H
/-- whether a value is one of these paths -/
def HasIs (K : PySem.W.Frag) (H : Hp) (pl : List (List Int)) (v : V) (b : Bool) : Prop := ((∀ H', Same H H' → NotA K H' v "tuple") ∧ b = false) ∨ (∃ t xs bs, v = .ref t ∧ SqT K H t xs ∧ xs.length ≤ 1000 ∧ All2 (IntIs K H) xs bs ∧ bs.all id = false ∧ b = false) ∨ ∃ t ns, v = .ref t ∧ H t = some (.tup (ns.map V.int)) ∧ ns.length ≤ 1000 ∧ b = decide (ns ∈ pl)
theorem HasIs.same {K : PySem.W.Frag} {H H' : Hp} {pl : List (List Int)} {v : V} {b : Bool} (h : HasIs K H pl v b) (s : Same H H') : HasIs K H' pl v b := by
  rcases h with ⟨h, e⟩ | ⟨t, xs, bs, e, h, l, a, f, eb⟩ | ⟨t, ns, e, h, l, eb⟩
  · exact .inl ⟨fun H'' s' => h H'' (s.trans s'), e⟩
  · exact .inr (.inl ⟨t, xs, bs, e, sameT s h, l, all2_mono a fun _ _ q => q.same s, f, eb⟩)
  · exact .inr (.inr ⟨t, ns, e, s _ _ h, l, eb⟩)
def spHas (K : PySem.W.Frag) (d : Nat) : Sp := fun vs H Q _ => ∃ (p : Addr) (v : V) (b : Bool) (ka ks : List (Key × V)) (vi : V) (rows : List (Row d)), vs = [.ref p, v] ∧ PgAt K H p ka ks vi d rows ∧ HasIs K H (planOf d rows).pl v b ∧ ∀ H', Same H H' → Q (.bl b) H'
def spRows (K : PySem.W.Frag) (d : Nat) : Sp := fun vs H Q _ => ∃ (p : Addr) (ka ks : List (Key × V)) (vi : V) (rows : List (Row d)), vs = [.ref p] ∧ PgAt K H p ka ks vi d rows ∧ rows.length ≤ 1000 ∧
  ∀ (H' : Hp) (D : Addr) (ys : List V), Same H H' → H D = none → H' D = some (.lst ys) → All2 (RowAt K (res (NL H) H') d) rows ys → Q (.ref D) H'
def spPaths (K : PySem.W.Frag) (d : Nat) : Sp := fun vs H Q _ => ∃ (p : Addr) (ka ks : List (Key × V)) (vi : V) (rows : List (Row d)), vs = [.ref p] ∧ PgAt K H p ka ks vi d rows ∧
  ∀ (H' : Hp) (D : Addr) (pa : List Addr), Same H H' → H D = none → H' D = some (.lst (pa.map V.ref)) → PathsAt H' (planOf d rows).pl pa → Q (.ref D) H'
/-- the rows of a list, flat, are less deep -/
theorem flat_lt : ∀ (d : Nat) (r : Row d), ∀ x ∈ flatR d r, x.1 < d
  | 0, r, _, _ => nomatch r
  | d + 1, r, x, hx => by
    rcases List.mem_cons.mp hx with rfl | hx
    · exact Nat.lt_succ_self d
    · obtain ⟨l1, h1, h2⟩ := List.mem_flatten.mp hx
      obtain ⟨l, hl, rfl⟩ := List.mem_map.mp h1
      obtain ⟨l2, h3, h4⟩ := List.mem_flatten.mp h2
      obtain ⟨r', hr', rfl⟩ := List.mem_map.mp h3
      exact Nat.lt_succ_of_lt (flat_lt d r' x h4)
theorem flatL_lt (d : Nat) (rows : List (Row d)) : ∀ x ∈ flatL d rows, x.1 < d := fun x hx => by
  obtain ⟨l2, h3, h4⟩ := List.mem_flatten.mp hx
  obtain ⟨r', hr', rfl⟩ := List.mem_map.mp h3
  exact flat_lt d r' x h4
theorem shape_flat : ∀ (d : Nat) (r : Row d), Shape d r → ∀ x ∈ flatR d r, Shape (x.1 + 1) x.2
  | 0, r, _, _, _ => nomatch r
  | d + 1, r, sh, x, hx => by
    rcases List.mem_cons.mp hx with rfl | hx
    · exact sh
    · obtain ⟨l1, h1, h2⟩ := List.mem_flatten.mp hx
      obtain ⟨l, hl, rfl⟩ := List.mem_map.mp h1
      obtain ⟨l2, h3, h4⟩ := List.mem_flatten.mp h2
      obtain ⟨r', hr', rfl⟩ := List.mem_map.mp h3
      exact shape_flat d r' ((sh.2.2.2 l hl).2 r' hr') x h4
theorem shape_flatL {d : Nat} {rows : List (Row d)} (sh : ∀ r ∈ rows, Shape d r) : ∀ x ∈ flatL d rows, Shape (x.1 + 1) x.2 := fun x hx => by
  obtain ⟨l2, h3, h4⟩ := List.mem_flatten.mp hx
  obtain ⟨r', hr', rfl⟩ := List.mem_map.mp h3
  exact shape_flat d r' (sh r' hr') x h4
def spRowAt (K : PySem.W.Frag) (d : Nat) : Sp := fun vs H Q E => ∃ (p : Addr) (v : V) (ka ks : List (Key × V)) (vi : V) (rows : List (Row d)), vs = [.ref p, v] ∧ PgAt K H p ka ks vi d rows ∧
  ((HasIs K H (planOf d rows).pl v false ∧ Rz (cIA K) [("part", .str "path")] (fun _ => False) H E) ∨
   ∃ (t : Addr) (ns : List Int) (i : Nat) (x : AnyRow), v = .ref t ∧ H t = some (.tup (ns.map V.int)) ∧ ns.length ≤ 1000 ∧ (planOf d rows).pl[i]? = some ns ∧ (planOf d rows).fl[i]? = some x ∧
     ∀ (H' : Hp) (y : V), Same H H' → RowAt K (res (NL H) H') (x.1 + 1) x.2 y → Q y H')
section
variable {P : Program} {w : World} {K : PySem.W.Frag} {mg : Str → Option Value} {base : Heap}
theorem ok_is_integerG {f : Addr} {fd : FuncData} (F : FnP K "is_integer" "is_integer" s_is_integer f fd) (T : Tx w K mg) : FnOk P w K mg base CX0 1 f fd p_is_integer (spIsIntG K) := by
  refine F.ok sc_is_integer (fun vs H Q E h => ?_) (fun cdv A outer s H vs Q E hr h => ?_)
  · obtain ⟨v, b, rfl, _⟩ := h
    rfl
  · obtain ⟨v, b, rfl, hv, k⟩ := h
    refine ⟨_, PSs.nox (pss_one (ps_ret (pe_and (pe_callB call_isi (by rfl) T.b_isinstance (by decide +kernel) (pa_cons (pv 0) (pa_cons (pe_bltn (v := .ty "int") (u := .type "int") (by rfl) T.b_int (by decide +kernel) rfl) pa_nil))) (pe_one (pe_not (pe_callB call_isi (by rfl) T.b_isinstance (by decide +kernel) (pa_cons (pv 0) (pa_cons (pe_bltn (v := .ty "bool") (u := .type "bool") (by rfl) T.b_bool (by decide +kernel) rfl) pa_nil)))))))), ?_⟩
    rcases hv with ⟨i, rfl, rfl⟩ | ⟨c, rfl, rfl⟩ | ⟨h, rfl⟩
    · refine ⟨_, rfl, .int i, .ty "int", _, _, true, rfl, .ty _, .base (.int i), kit_ty (by decide +kernel), _, rfl, ?_⟩
      refine iteT ⟨_, rfl, .int i, .ty "bool", _, _, false, rfl, .ty _, .base (.int i), kit_ty (by decide +kernel), _, rfl, ?_⟩
      exact k
    · refine ⟨_, rfl, .bl c, .ty "int", _, _, true, rfl, .ty _, .base (.bl c), kit_ty (by decide +kernel), _, rfl, ?_⟩
      refine iteT ⟨_, rfl, .bl c, .ty "bool", _, _, true, rfl, .ty _, .base (.bl c), kit_ty (by decide +kernel), _, rfl, ?_⟩
      exact k
    · obtain ⟨ty, n1, n2⟩ := h H (Same.refl H)
      refine ⟨_, rfl, v, .ty "int", _, _, false, rfl, .ty _, n1, n2, _, rfl, ?_⟩
      exact iteF k
theorem ok_has_path {d : Nat} {f : Addr} {fd : FuncData} (F : FnP K "has_path" "Program.has_path" s_Program_has_path f fd) (T : Tx w K mg) (G_is_integer : Def P w K mg base CX0 1 "is_integer" p_is_integer (spIsIntG K)) : FnOk P w K mg base CX0 2 f fd p_Program_has_path (spHas K d) := by
  refine F.ok sc_Program_has_path (fun vs H Q E h => ?_) (fun cdv A outer s H vs Q E hr h => ?_)
  · obtain ⟨p, v, _, _, _, _, _, rfl, _⟩ := h
    rfl
  · obtain ⟨p, v, b, ka, ks, vi, rows, rfl, pg, hv, k⟩ := h
    have hu := hu_of hr
    refine ⟨_, PSs.nox (pss_cons (ps_if (PW.pt (pw_or (pt_not (pt_val (pe_callB call_isi (by rfl) T.b_isinstance (by decide +kernel) (pa_cons (pv 1) (pa_cons (pe_bltn (v := .ty "tuple") (u := .type "tuple") (by rfl) T.b_tuple (by decide +kernel) rfl) pa_nil))))) (pw_or1 (pt_not (pt_val (pe_callB (cr_all rfl) (by rfl) T.b_all (by decide +kernel) (pa_cons (pe_lc (own := [("number", 2)]) (g := (gName 2)) (by rfl) sc_Program_has_path.nd (pi_tup (pv 1)) (blkOk_by (N := n_Program_has_path) (sc := defScope s_Program_has_path) (by decide +kernel)) (fun _ _ _ _ _ => (pg_name (i := 2) sc_Program_has_path.nd rfl (.inl rfl))) (fun _ _ _ _ _ => pts_nil) (fun _ _ _ _ _ => (pe_fn G_is_integer (hr.mono (by omega)) (by rfl) pass0 (pa_cons (pv 2) pa_nil)))) pa_nil))))))) (pss_one (ps_ret pe_bl)) pss_nil)
      (pss_one (ps_ret (pe_cmp (pc_din hu (pv 1) (pe_fld (pe_fld (pv 0) rfl) rfl)))))), ?_⟩
    rcases hv with ⟨h, rfl⟩ | hv
    · obtain ⟨ty, n1, n2⟩ := h H (Same.refl H)
      refine ⟨_, rfl, v, .ty "tuple", _, _, false, rfl, .ty _, n1, n2, _, rfl, ?_⟩
      refine iteT ?_
      refine iteT ?_
      exact k H (Same.refl H)
    have go : ∃ t xs bs, v = .ref t ∧ SqT K H t xs ∧ xs.length ≤ 1000 ∧ All2 (IntIs K H) xs bs ∧ ((bs.all id = false ∧ b = false) ∨ (bs.all id = true ∧ ∃ ns : List Int, H t = some (.tup (ns.map V.int)) ∧ b = decide (ns ∈ (planOf d rows).pl))) := by
      rcases hv with ⟨t, xs, bs, e, h, l, a, f, eb⟩ | ⟨t, ns, e, h, l, eb⟩
      · exact ⟨t, xs, bs, e, h, l, a, .inl ⟨f, eb⟩⟩
      · refine ⟨t, ns.map V.int, ns.map fun _ => true, e, SqT.of h, by rw [List.length_map]; exact l, ?_, .inr ⟨by simp, ns, h, eb⟩⟩
        clear h eb l
        induction ns with
        | nil => exact .nil
        | cons z ns ih => exact .cons (.inl ⟨z, rfl, rfl⟩) ih
    obtain ⟨t, xs, bs, rfl, ht, few, al, hb⟩ := go
    refine ⟨_, rfl, .ref t, .ty "tuple", _, _, true, rfl, .ty _, tyT ht, kit_ty (by decide +kernel), _, rfl, ?_⟩
    refine iteF ?_
    refine ⟨_, rfl, t, rfl, ⟨_, ht⟩, fun D nD => ?_⟩
    refine lc_it (walk_tup (K := K) (a := t) (xs := xs)) (fun i H' => Same H H' ∧ H' D = some (.lst ((bs.take i).map V.bl))) ⟨Same.new nD, upd_same⟩ (fun i H' _ q => sameT q.1 ht) (fun i x H1 H2 hi q y => ?_) (fun H1 q => ?_)
    · obtain ⟨rfl, hx⟩ := y
      obtain ⟨S1, hD⟩ := q
      obtain ⟨bb, hbb, ii⟩ := al.right hx
      refine ⟨rfl, ?_⟩
      refine tYes_ ?_
      refine iteT ?_
      refine ⟨_, rfl, x, bb, rfl, ii.same S1, ?_⟩
      refine ⟨_, hD, small1000 (by rw [List.length_map, List.length_take]; have := al.len; omega), fun c o hc => ?_, ?_⟩
      · rw [upd_ne (ne_of_none hc nD)]
        exact S1 _ _ hc
      · rw [upd_same, take_more hbb, List.map_append]
        rfl
    · obtain ⟨S1, hD⟩ := q
      rw [al.len, List.take_length] at hD
      refine ⟨D, bs, rfl, SqL.of hD, _, rfl, ?_⟩
      rcases hb with ⟨e1, rfl⟩ | ⟨e1, ns, hns, rfl⟩
      · refine iteT' (by rw [e1]; rfl) ?_
        exact k _ S1
      · refine iteF' (by rw [e1]; rfl) ?_
        obtain ⟨Hr, dx, ⟨a, s', l, pl, nt, dx2, ys, h0, h1, h2, h3, h4, sh, h5, h6⟩, Sr⟩ := pg
        obtain ⟨a1, a2, a3, a4, a5, a6, a7, F', pa, ce, cs, pat⟩ := h5
        have SR := Sr.trans S1
        refine ⟨_, rfl, _, rfl, p, _, dx, _, .ref pl, rfl, SR _ _ h0, T.c_Program, T.n_Program_plan, rfl, pl, _, dx2, _, .ref a7, rfl, SR _ _ pat.ob, T.c_Plan, T.n_Plan_numbers, rfl, a7, _, rfl, .inr ⟨numsOf (planOf d rows).pl, ns.map Sum.inl, t, .inl (SR _ _ pat.h7), rfl, (by rw [S1 _ _ hns, List.map_map]; rfl), rfl⟩, ?_⟩
        rw [nums_is (by rw [pl_plan]; exact (asc_L d rows []).1.nodup)]
        exact k _ S1
theorem ok_rows {kd d : Nat} {f : Addr} {fd : FuncData} (F : FnP K "rows" "Program.rows" s_Program_rows f fd) (T : Tx w K mg) (G_copied : Def P w K mg base CX0 kd "copied" p_copied (spCopied K (d + 1))) : FnOk P w K mg base CX0 (kd + 1) f fd p_Program_rows (spRows K d) := by
  refine F.ok sc_Program_rows (fun vs H Q E h => ?_) (fun cdv A outer s H vs Q E hr h => ?_)
  · obtain ⟨p, _, _, _, _, rfl, _⟩ := h
    rfl
  · obtain ⟨p, ka, ks, vi, rows, rfl, ⟨Hr, dx, ⟨a, s', l, pl, nt, dx2, ys, h0, h1, h2, h3, h4, sh, h5, h6⟩, Sr⟩, few, k⟩ := h
    refine ⟨_, PSs.nox (pss_one (ps_ret (pe_fn G_copied (hr.mono (by omega)) (by rfl) pass0 (pa_cons (pe_fld (pv 0) rfl) pa_nil)))), ?_⟩
    refine ⟨_, rfl, p, _, dx, _, .ref l, rfl, Sr _ _ h0, T.c_Program, T.n_Program_row_list, rfl, l, Hr, rows, ys, rfl, h3, Sr, h4, few, sh, k⟩
theorem ok_paths {d : Nat} {f : Addr} {fd : FuncData} (F : FnP K "paths" "Program.paths" s_Program_paths f fd) (T : Tx w K mg) : FnOk P w K mg base CX0 1 f fd p_Program_paths (spPaths K d) := by
  refine F.ok sc_Program_paths (fun vs H Q E h => ?_) (fun cdv A outer s H vs Q E hr h => ?_)
  · obtain ⟨p, _, _, _, _, rfl, _⟩ := h
    rfl
  · obtain ⟨p, ka, ks, vi, rows, rfl, ⟨Hr, dx, ⟨a, s', l, pl, nt, dx2, ys, h0, h1, h2, h3, h4, sh, h5, h6⟩, Sr⟩, k⟩ := h
    obtain ⟨a1, a2, a3, a4, a5, a6, a7, F', pa, ce, cs, pat⟩ := h5
    refine ⟨_, PSs.nox (pss_one (ps_ret (pe_callTy call_list_of (by rfl) T.b_list (by decide +kernel) (pa_cons (pe_fld (pe_fld (pv 0) rfl) rfl) pa_nil)))), ?_⟩
    refine ⟨_, rfl, p, _, dx, _, .ref pl, rfl, Sr _ _ h0, T.c_Program, T.n_Program_plan, rfl, pl, _, dx2, _, .ref a2, rfl, Sr _ _ pat.ob, T.c_Plan, T.n_Plan_places, rfl, a2, _, rfl, .inl (SqL.of (Sr _ _ pat.h2)), fun D nD => ?_⟩
    exact k _ D pa (Same.new nD) nD upd_same (pat.pt.imp fun _ _ _ e => Same.new nD _ _ (Sr _ _ e))
theorem ok_row_at {kd k0 d : Nat} {f : Addr} {fd : FuncData} (F : FnP K "row_at" "Program.row_at" s_Program_row_at f fd) (T : Tx w K mg) (h2 : 2 ≤ k0) (hkd : kd ≤ k0) (E_InvalidArgument : ErrDef P w K mg base CX0 1 "InvalidArgument" (cIA K) ["self", "part"] ["part"])
    (M_has_path : MDef P w K mg base CX0 2 (He.ga K "Program") "has_path" p_Program_has_path (spHas K d)) (G_copied : ∃ sp, Def P w K mg base CX0 kd "copied" p_copied sp ∧ ∀ e, e < d → ∀ vs H Q E, spCopied K (e + 2) vs H Q E → sp vs H Q E) : FnOk P w K mg base (L2.CX P w) (k0 + 1) f fd p_Program_row_at (spRowAt K d) := by
  obtain ⟨spC, G_copied, weak⟩ := G_copied
  refine F.ok sc_Program_row_at (fun vs H Q E h => ?_) (fun cdv A outer s H vs Q E hr h => ?_)
  · obtain ⟨p, v, _, _, _, _, rfl, _⟩ := h
    rfl
  · obtain ⟨p, v, ka, ks, vi, rows, rfl, pg, h⟩ := h
    have hu := hu_of hr
    refine ⟨_, (pss_cons (ps_if (pt_not (pt_val (pe_mth M_has_path (hr.mono (by omega)) pass0 (pv 0) (pa_cons (pv 1) pa_nil)))) (pss_one (ps_raise rfl (takes_of rfl rfl rfl rfl) (pmk_errL E_InvalidArgument (hr.mono (by omega)) (by rfl) pass0 (pa_cons pe_str pa_nil)))) pss_nil)
      (pss_one (ps_ret (pe_ix ix_list (pe_fn G_copied (hr.mono (by omega)) (by rfl) pass0 (pa_cons (pe_lst (pa_cons (pe_ix ix_list (pe_fld (pe_fld (pv 0) rfl) rfl) (pe_dget hu (pe_fld (pe_fld (pv 0) rfl) rfl) (pv 1) (fun _ _ => rfl)) (fun _ _ => rfl)) pa_nil)) pa_nil)) pe_int (fun _ _ => rfl))))), ?_⟩
    obtain ⟨Hr, dx, ⟨a, s', l, pl, nt, dx2, ys, h0, h1, h2, h3, h4, sh, h5, h6⟩, Sr⟩ := id pg
    obtain ⟨a1, a2, a3, a4, a5, a6, a7, F', pa, ce, cs, pat⟩ := h5
    rcases h with ⟨hv, ke⟩ | ⟨t, ns, i, x, rfl, ht, few, hp, hx, k⟩
    · refine ⟨_, rfl, p, dx, _, rfl, Sr _ _ h0, rfl, _, rfl, p, v, false, ka, ks, vi, rows, rfl, pg, hv, fun H1 S1 => ?_⟩
      refine ⟨_, rfl, ?_⟩
      refine iteT ?_
      exact ⟨rfl, fun d0 H' nd hd oth => rz_now (ke.of (Cs' := fun _ => False) (Kp.of S1) (fun b n => S1.free n) fun b z => z.elim) nd hd oth⟩
    · refine ⟨_, rfl, p, dx, _, rfl, Sr _ _ h0, rfl, _, rfl, p, .ref t, true, ka, ks, vi, rows, rfl, pg, .inr (.inr ⟨t, ns, rfl, ht, few, (decide_eq_true (List.mem_of_getElem? hp)).symm⟩), fun H1 S1 => ?_⟩
      refine ⟨_, rfl, ?_⟩
      refine iteF ?_
      have SR := Sr.trans S1
      have ef := fl_plan sh
      have hx2 := hx
      rw [ef] at hx2
      have xm := List.mem_of_getElem? hx2
      obtain ⟨y, hy, hra⟩ := pat.fl.right hx
      have nd : (planOf d rows).pl.Nodup := by rw [pl_plan]; exact (asc_L d rows []).1.nodup
      refine ⟨_, rfl, p, _, dx, _, .ref pl, rfl, SR _ _ h0, T.c_Program, T.n_Program_plan, rfl, pl, _, dx2, _, .ref a1, rfl, SR _ _ pat.ob, T.c_Plan, T.n_Plan_flat, rfl, ?_⟩
      refine ⟨_, rfl, p, _, dx, _, .ref pl, rfl, SR _ _ h0, T.c_Program, T.n_Program_plan, rfl, pl, _, dx2, _, .ref a7, rfl, SR _ _ pat.ob, T.c_Plan, T.n_Plan_numbers, rfl, ?_⟩
      refine ⟨_, rfl, a7, _, rfl, .inr ⟨numsOf (planOf d rows).pl, ns.map Sum.inl, t, .inl (SR _ _ pat.h7), rfl, (by rw [S1 _ _ ht, List.map_map]; rfl), (nums_some nd hp).symm⟩, ?_⟩
      refine ⟨a1, F', (i : Nat), y, rfl, rfl, SqL.of (SR _ _ pat.h1), atI_nat hy, ?_⟩
      refine ⟨by show 1 ≤ sizeLine; decide, fun q nq => ?_⟩
      have S2 : Same H1 (upd H1 q (.lst [y])) := Same.new nq
      have hq : upd H1 q (.lst [y]) q = some (.lst [y]) := upd_same
      generalize upd H1 q (.lst [y]) = H2 at S2 hq ⊢
      refine weak x.1 (flatL_lt d rows x xm) _ _ _ _ ⟨q, H2, [x.2], [y], rfl, hq, Same.refl H2, .one (RowAt.mono (SR.trans S2) hra), by show 1 ≤ 1000; decide, fun r hr => by rw [List.mem_singleton.mp hr]; exact shape_flatL sh x xm, fun H3 D ys3 S3 nD hD hys => ?_⟩
      cases hys with
      | cons hz hn =>
        cases hn
        rename_i z
        refine ⟨D, [z], 0, z, rfl, rfl, SqL.of hD, by rfl, ?_⟩
        have S13 := S1.trans (S2.trans S3)
        exact k H3 z S13 (hz.mono (same_res fun b o n e => ⟨NL.of (S1.trans S2) n, e⟩))
end
end OR

set_option Elab.async false
set_option maxRecDepth 100000
set_option maxHeartbeats 4000000
set_option linter.all false
namespace OR
open PySem PySem.Spec PyProof.Rows L2 TS2
/-! ### a program as in the first law: what is drawn stands -/
structure Kit where
  ka : List (Key × V)
  ks : List (Key × V)
  asks : List Str
  sigs : List Str
  gates : List Str
  inputs : List Str
  labels : List Str
  slots : List Str
  words : List Str
/-- a part is a good one for its form -/
def PG (kt : Kit) {R : Type} (f : Str) : Pt R → Prop
  | .word z => isWord z = true ∧ (f = "ask" → z ∈ kt.asks) ∧ (f = "signal" → z ∈ kt.sigs) ∧ (f = "slot" → z ∈ kt.slots) ∧ (f = "source" → z ∈ kt.slots ∨ z = "in") ∧ (f = "label" → z ∈ kt.labels) ∧ (f = "gate" → z ∈ kt.gates) ∧ f ≠ "labels" ∧ f ≠ "words" ∧ f ≠ "rows" ∧ f ≠ "sides" ∧ f ≠ "edit"
  | .words l => (f = "labels" ∨ f = "words") ∧ areW 3 l = true ∧ (f = "labels" → ∀ z ∈ l, z ∈ kt.labels)
  | .rows l => f = "rows" ∧ l.length ≤ 14
  | .sides ls => f = "sides" ∧ (ls.length = 2 ∨ ls.length = 3) ∧ ∀ l ∈ ls, l.length ≤ 14
structure LocalOk (kt : Kit) (il : Bool) {R : Type} (w : Str) (ps : List (Pt R)) : Prop where
  f : (w, fsOf w) ∈ ftab
  e : w ≠ "edit"
  p : All2 (PG kt) (fsOf w) ps
  l : w = "leave" → il = true
def Good (kt : Kit) : (d : Nat) → Bool → Row d → Prop
  | 0, _, r => nomatch r
  | d + 1, il, r => LocalOk kt il r.1 r.2 ∧ (kids r.2 ≠ [] → 1 ≤ d) ∧ ∀ l ∈ kids r.2, ∀ r' ∈ l, Good kt d (innerLoop r.1 il) r'
structure Kit.Ok (kt : Kit) : Prop where
  a : kt.ka.map (·.1) = kt.asks.map Sum.inr
  s : kt.ks.map (·.1) = kt.sigs.map Sum.inr
  n : ("in" : Str) ∉ kt.slots
  l3 : kt.labels.length ≤ 3
  s2 : kt.slots.length ≤ 2
  g2 : kt.gates.length ≤ 2
theorem isWord_len {z : Str} (h : isWord z = true) : z.length ≤ 8 := by
  unfold isWord at h
  simp only [Bool.and_eq_true, decide_eq_true_eq] at h
  omega
theorem areW_all {m : Int} {l : List Str} (h : areW m l = true) : (∀ z ∈ l, isWord z = true) ∧ (l.length : Int) ≤ m := by
  unfold areW at h
  simp only [Bool.and_eq_true, decide_eq_true_eq] at h
  refine ⟨fun z hz => ?_, h.1.2⟩
  have := List.all_eq_true.mp h.2.1 (isWord z) (List.mem_map.mpr ⟨z, hz, rfl⟩)
  exact this
theorem hasK_of {kvs : List (Key × V)} {ns : List Str} (h : kvs.map (·.1) = ns.map Sum.inr) {z : Str} (hz : z ∈ ns) : hasK kvs z = true := by
  unfold hasK
  cases e : valV kvs (Sum.inr z : Key) with
  | some v => rfl
  | none =>
    exact absurd (by rw [h]; exact List.mem_map.mpr ⟨z, hz, rfl⟩) (valV_not e)
theorem pg_fit {kt : Kit} (ok : kt.Ok) {R : Type} {f : Str} {p : Pt R} (h : PG kt f p) : fit kt.ka kt.ks f p = true := by
  cases p with
  | word z =>
    obtain ⟨w, h1, h2, h3, h4, h5, h6, n1, n2, n3, n4, n5⟩ := h
    unfold fit
    by_cases c1 : f = "ask"
    · rw [if_pos c1]; simp [onWord, w, hasK_of ok.a (h1 c1)]
    rw [if_neg c1]
    by_cases c2 : f = "signal"
    · rw [if_pos c2]; simp [onWord, w, hasK_of ok.s (h2 c2)]
    rw [if_neg c2]
    by_cases c3 : f = "slot"
    · rw [if_pos c3]
      have : z ≠ "in" := fun e => ok.n (e ▸ h3 c3)
      simp [onWord, w, this]
    rw [if_neg c3, if_neg (fun q => by rcases q with q | q; exact n1 q; exact n2 q), if_neg n3, if_neg n4]
    simp [onWord, w]
  | words l =>
    obtain ⟨h1, h2, _⟩ := h
    unfold fit
    rw [if_neg (by rcases h1 with h | h <;> rw [h] <;> decide +kernel), if_neg (by rcases h1 with h | h <;> rw [h] <;> decide +kernel), if_neg (by rcases h1 with h | h <;> rw [h] <;> decide +kernel), if_pos h1]
    exact h2
  | rows l =>
    obtain ⟨h1, _⟩ := h
    subst h1
    unfold fit
    rw [if_neg (by decide +kernel), if_neg (by decide +kernel), if_neg (by decide +kernel), if_neg (by decide +kernel), if_pos rfl]
    rfl
  | sides ls =>
    obtain ⟨h1, h2, _⟩ := h
    subst h1
    unfold fit
    rw [if_neg (by decide +kernel), if_neg (by decide +kernel), if_neg (by decide +kernel), if_neg (by decide +kernel), if_neg (by decide +kernel), if_pos rfl]
    exact decide_eq_true h2
theorem all2_zip {α β : Type} {R : α → β → Prop} {xs : List α} {ys : List β} (h : All2 R xs ys) : ∀ x ∈ xs.zip ys, R x.1 x.2 := by
  induction h with
  | nil => intro x hx; simp at hx
  | cons h t ih =>
    intro x hx
    rw [List.zip_cons_cons] at hx
    rcases List.mem_cons.mp hx with rfl | hx
    · exact h
    · exact ih x hx
theorem lo_form {kt : Kit} (ok : kt.Ok) {il : Bool} {R : Type} {w : Str} {ps : List (Pt R)} (h : LocalOk kt il w ps) : hasForm false kt.ka kt.ks w (fsOf w) ps = true := by
  unfold hasForm
  rw [decide_eq_false h.e, decide_eq_true h.p.len.symm]
  simp only [Bool.false_and, Bool.not_false, Bool.true_and, List.all_map, List.all_eq_true]
  intro x hx
  exact pg_fit ok (all2_zip h.p x hx)
theorem pg_words {kt : Kit} {R : Type} {f : Str} {p : Pt R} (h : PG kt f p) : (wordsP p).length ≤ 3 ∧ (∀ z ∈ wordsP p, isWord z = true) ∧ (kidsP p).length ≤ 3 ∧ ∀ l ∈ kidsP p, l.length ≤ 14 := by
  cases p with
  | word z => exact ⟨by simp [wordsP], fun x hx => by simp [wordsP] at hx; rw [hx]; exact h.1, by simp [kidsP], fun l hl => by simp [kidsP] at hl⟩
  | words l =>
    obtain ⟨a, b⟩ := areW_all h.2.1
    exact ⟨by show l.length ≤ 3; omega, a, by simp [kidsP], fun l hl => by simp [kidsP] at hl⟩
  | rows l => exact ⟨by simp [wordsP], fun z hz => by simp [wordsP] at hz, by simp [kidsP], fun l' hl => by simp [kidsP] at hl; rw [hl]; exact h.2⟩
  | sides ls =>
    refine ⟨by simp [wordsP], fun z hz => by simp [wordsP] at hz, ?_, h.2.2⟩
    show ls.length ≤ 3
    rcases h.2.1 with e | e <;> omega
theorem fs_four {w : Str} (h : (w, fsOf w) ∈ ftab) : (fsOf w).length ≤ 4 := ftab_four _ h
theorem fl_len {α β : Type} {f : α → List β} {c : Nat} : ∀ (l : List α), (∀ x ∈ l, (f x).length ≤ c) → ((l.map f).flatten).length ≤ c * l.length
  | [], _ => by simp
  | x :: l, h => by
    have h1 := h x List.mem_cons_self
    have h2 := fl_len l fun y hy => h y (List.mem_cons_of_mem _ hy)
    rw [List.map_cons, List.flatten_cons, List.length_append, List.length_cons, Nat.mul_add]
    omega
theorem lo_kids {kt : Kit} {il : Bool} {R : Type} {w : Str} {ps : List (Pt R)} (h : LocalOk kt il w ps) : ps.length ≤ 4 ∧ (kids ps).length ≤ 12 ∧ ∀ l ∈ kids ps, l.length ≤ 14 := by
  have h4 : ps.length ≤ 4 := by rw [← h.p.len]; exact fs_four h.f
  have pw : ∀ p ∈ ps, (kidsP p).length ≤ 3 ∧ ∀ l ∈ kidsP p, l.length ≤ 14 := fun p hp => by
    obtain ⟨i, hi⟩ := List.getElem?_of_mem hp
    obtain ⟨f, _, hf⟩ := h.p.other hi
    exact (pg_words hf).2.2
  refine ⟨h4, ?_, fun l hl => ?_⟩
  · have := fl_len (f := kidsP) (c := 3) ps fun p hp => (pw p hp).1
    show ((ps.map kidsP).flatten).length ≤ 12
    omega
  · obtain ⟨l1, h1, h2⟩ := List.mem_flatten.mp hl
    obtain ⟨p, hp, rfl⟩ := List.mem_map.mp h1
    exact (pw p hp).2 l h2
theorem good_pre {kt : Kit} : ∀ (d : Nat) (il : Bool) (r : Row d), Good kt d il r → Pre d r
  | 0, _, r, _ => nomatch r
  | d + 1, il, r, h => by
    obtain ⟨lo, _, hk⟩ := h
    obtain ⟨k4, k12, k14⟩ := lo_kids lo
    refine ⟨lo.f, fun x hx => ?_, by omega, by omega, fun l hl => ⟨by have := k14 l hl; omega, fun r' hr' => good_pre d _ r' (hk l hl r' hr')⟩⟩
    have pg := all2_zip lo.p x hx
    obtain ⟨w3, wa, k3, _⟩ := pg_words pg
    refine ⟨fun z hz => by have := isWord_len (wa z hz); omega, by omega, by omega, fun q ls e => ?_, fun q l e => ?_⟩
    · rw [e] at pg
      have := pg.1
      rcases q with q | q <;> rw [q] at this <;> exact absurd this (by decide +kernel)
    · rw [e] at pg
      have := pg.1
      rw [q] at this
      exact absurd this (by decide +kernel)
theorem isNew_free {R : Type} {fs : List Str} {ps : List (Pt R)} {st : Sn} (n : ("edit" : Str) ∉ fs) (h : st.1 = []) : (isNew fs ps st).1 = true ∧ (isNew fs ps st).2.1 = [] := by
  unfold isNew
  rw [if_neg n]
  split
  · exact ⟨by rw [h]; rfl, h⟩
  · exact ⟨rfl, h⟩
theorem ftab_noedit : ∀ e ∈ ftab, e.1 ≠ "edit" → ("edit" : Str) ∉ e.2 := by decide +kernel
theorem seqChk_good {α : Type} {f : α → List Int → Sn → Option (List Int) × Sn} {pre : List Int} : ∀ {l : List α} {i : Nat} {st : Sn}, st.1 = [] → (∀ x ∈ l, ∀ (n : Int) st, st.1 = [] → (f x (pre ++ [n]) st).1 = none ∧ (f x (pre ++ [n]) st).2.1 = []) → (seqChk f pre l i st).1 = none ∧ (seqChk f pre l i st).2.1 = []
  | [], i, st, h, _ => ⟨rfl, h⟩
  | x :: xs, i, st, h, k => by
    unfold seqChk
    obtain ⟨a, b⟩ := k x List.mem_cons_self (i : Int) st h
    cases e : f x (pre ++ [(i : Int)]) st with
    | mk o st' =>
      rw [e] at a b
      have a : o = none := a
      subst a
      exact seqChk_good b fun y hy => k y (List.mem_cons_of_mem _ hy)
theorem good_chk {kt : Kit} (ok : kt.Ok) : ∀ (d : Nat) (il : Bool) (rows : List (Row d)) (pre : List Int) (st : Sn), st.1 = [] → pre.length + 2 * d = 10 → (∀ r ∈ rows, Good kt d il r) → (chk false kt.ka kt.ks d il rows pre st).1 = none ∧ (chk false kt.ka kt.ks d il rows pre st).2.1 = []
  | 0, il, rows, pre, st, h, _, _ => ⟨rfl, h⟩
  | d + 1, il, rows, pre, st, h, hl, g => by
    unfold chk
    refine seqChk_good h fun r hr n st h => ?_
    obtain ⟨lo, kd, hk⟩ := g r hr
    obtain ⟨n1, n2⟩ := isNew_free (ps := r.2) (st := st) (ftab_noedit _ lo.f lo.e) h
    have m : mayS r.1 (pre ++ [n]).length il (kids r.2).length = true := by
      unfold mayS
      split
      · rename_i q; exact lo.l q
      · rw [List.length_append, List.length_singleton]
        by_cases c : kids r.2 = []
        · simp [c]
        · have := kd c
          simp only [Bool.or_eq_true, decide_eq_true_eq]
          omega
    unfold oneChk
    rw [if_pos (by rw [lo_form ok lo, m]; rfl), if_pos n1]
    refine seqChk_good n2 fun l hl' j st h => ?_
    exact good_chk ok d _ l _ st h (by rw [List.length_append, List.length_append, List.length_singleton, List.length_singleton]; omega) (hk l hl')
/-! ### the names -/
theorem good_flat {kt : Kit} : ∀ (d : Nat) (il : Bool) (r : Row d), Good kt d il r → ∀ x ∈ flatR d r, ∃ il', LocalOk kt il' x.2.1 x.2.2
  | 0, _, r, _, _, _ => nomatch r
  | d + 1, il, r, h, x, hx => by
    rcases List.mem_cons.mp hx with rfl | hx
    · exact ⟨il, h.1⟩
    · obtain ⟨l1, h1, h2⟩ := List.mem_flatten.mp hx
      obtain ⟨l, hl, rfl⟩ := List.mem_map.mp h1
      obtain ⟨l2, h3, h4⟩ := List.mem_flatten.mp h2
      obtain ⟨r', hr', rfl⟩ := List.mem_map.mp h3
      exact good_flat d _ r' (h.2.2 l hl r' hr') x h4
theorem good_flatL {kt : Kit} {d : Nat} {il : Bool} {rows : List (Row d)} (g : ∀ r ∈ rows, Good kt d il r) : ∀ x ∈ flatL d rows, ∃ il', LocalOk kt il' x.2.1 x.2.2 := fun x hx => by
  obtain ⟨l2, h3, h4⟩ := List.mem_flatten.mp hx
  obtain ⟨r', hr', rfl⟩ := List.mem_map.mp h3
  exact good_flat d il r' (g r' hr') x h4
theorem named_in' {kt : Kit} {il : Bool} {R : Type} {w : Str} {ps : List (Pt R)} (h : LocalOk kt il w ps) (which : List Str) {S : Str → Prop} (k : ∀ f p, f ∈ which → PG kt f (p : Pt R) → ∀ z ∈ wordsP p, S z) : (∀ z ∈ named which (fsOf w) ps, S z) ∧ (named which (fsOf w) ps).length ≤ 12 := by
  refine ⟨fun z hz => ?_, ?_⟩
  · obtain ⟨l, hl, hz⟩ := List.mem_flatten.mp hz
    obtain ⟨x, hx, rfl⟩ := List.mem_map.mp hl
    by_cases c : x.1 ∈ which
    · rw [if_pos c] at hz
      exact k x.1 x.2 c (all2_zip h.p x hx) z hz
    · rw [if_neg c] at hz
      simp at hz
  · have := fl_len (f := fun x : Str × Pt R => if x.1 ∈ which then wordsP x.2 else []) (c := 3) ((fsOf w).zip ps) fun x hx => by
      show (if x.1 ∈ which then wordsP x.2 else []).length ≤ 3
      split
      · exact (pg_words (all2_zip h.p x hx)).1
      · simp
    have l4 := fs_four h.f
    have lz : ((fsOf w).zip ps).length ≤ 4 := by rw [List.length_zip]; omega
    unfold named
    omega
theorem names_sub {kt : Kit} {d : Nat} {il : Bool} {rows : List (Row d)} (g : ∀ r ∈ rows, Good kt d il r) (which : List Str) {S : Str → Prop} (k : ∀ (R : Type) f (p : Pt R), f ∈ which → PG kt f p → ∀ z ∈ wordsP p, S z) : (∀ z ∈ namesAll which (flatL d rows), S z) ∧ (namesAll which (flatL d rows)).length ≤ 12 * lsz d rows := by
  have lo := good_flatL g
  rw [← flatL_len]
  generalize flatL d rows = fl at lo
  refine ⟨fun z hz => ?_, ?_⟩
  · obtain ⟨l, hl, hz⟩ := List.mem_flatten.mp hz
    obtain ⟨x, hx, rfl⟩ := List.mem_map.mp hl
    obtain ⟨_, lo⟩ := lo x hx
    exact (named_in' lo which fun f p hf pg => k _ f p hf pg).1 z hz
  · exact fl_len fl fun x hx => by
      obtain ⟨_, lo⟩ := lo x hx
      exact (named_in' lo which (S := fun _ => True) fun f p hf pg z hz => trivial).2
theorem uniq_sub {l L : List Str} (h : ∀ z ∈ l, z ∈ L) : (uniq l).length ≤ L.length := (uniq_nodup l).length_le_of_subset fun z hz => h z (mem_uniq.mp hz)
theorem good_out {kt : Kit} (ok : kt.Ok) {rows : List (Row 5)} (g : ∀ r ∈ rows, Good kt 5 false r) (few : lsz 5 rows ≤ 14) : outcome false (some kt.ka) (some kt.ks) true 5 (some rows) = none := by
  have h1 := (good_chk ok 5 false rows [] ([], []) rfl (by simp) g).1
  have l1 : labelsN 5 rows ≤ 3 := Nat.le_trans (uniq_sub (names_sub g ["label", "labels"] (S := fun z => z ∈ kt.labels) fun R f p hf pg z hz => by
    cases p with
    | word x =>
      simp [wordsP] at hz
      subst hz
      obtain ⟨_, _, _, _, _, k, _, n1, _⟩ := pg
      rcases List.mem_cons.mp hf with e | hf
      · exact k e
      · exact absurd (List.mem_singleton.mp hf) n1
    | words l =>
      obtain ⟨q, _, k⟩ := pg
      refine k ?_ z hz
      rcases List.mem_cons.mp hf with e | hf
      · rw [e] at q
        rcases q with q | q <;> exact absurd q (by decide +kernel)
      · exact List.mem_singleton.mp hf
    | rows l => simp [wordsP] at hz
    | sides l => simp [wordsP] at hz).1) ok.l3
  have l2 : slotsN 5 rows ≤ 2 := by
    have sub := (names_sub g ["slot", "source"] (S := fun z => z ∈ kt.slots ∨ z = "in") fun R f p hf pg z hz => by
      cases p with
      | word x =>
        simp [wordsP] at hz
        subst hz
        obtain ⟨_, _, _, k1, k2, _⟩ := pg
        rcases List.mem_cons.mp hf with e | hf
        · exact .inl (k1 e)
        · exact k2 (List.mem_singleton.mp hf)
      | words l =>
        obtain ⟨q, _⟩ := pg
        exfalso
        rcases List.mem_cons.mp hf with e | hf
        · rw [e] at q
          rcases q with q | q <;> exact absurd q (by decide +kernel)
        · rw [List.mem_singleton.mp hf] at q
          rcases q with q | q <;> exact absurd q (by decide +kernel)
      | rows l => simp [wordsP] at hz
      | sides l => simp [wordsP] at hz).1
    refine Nat.le_trans (List.Nodup.length_le_of_subset (l₂ := kt.slots) ((uniq_nodup _).filter _) fun z hz => ?_) ok.s2
    obtain ⟨hz, hn⟩ := List.mem_filter.mp hz
    rcases sub z (mem_uniq.mp hz) with h | h
    · exact h
    · exact absurd h (of_decide_eq_true hn)
  have l3 : gatesN 5 rows ≤ 2 := Nat.le_trans (uniq_sub (names_sub g ["gate", "edit"] (S := fun z => z ∈ kt.gates) fun R f p hf pg z hz => by
    cases p with
    | word x =>
      simp [wordsP] at hz
      subst hz
      obtain ⟨_, _, _, _, _, _, k, _, _, _, _, n⟩ := pg
      rcases List.mem_cons.mp hf with e | hf
      · exact k e
      · exact absurd (List.mem_singleton.mp hf) n
    | words l =>
      obtain ⟨q, _⟩ := pg
      exfalso
      rcases List.mem_cons.mp hf with e | hf
      · rw [e] at q
        rcases q with q | q <;> exact absurd q (by decide +kernel)
      · rw [List.mem_singleton.mp hf] at q
        rcases q with q | q <;> exact absurd q (by decide +kernel)
    | rows l => simp [wordsP] at hz
    | sides l => simp [wordsP] at hz).1) ok.g2
  unfold outcome
  simp only [h1, if_true]
  have : fault4 (lsz 5 rows) (labelsN 5 rows) (slotsN 5 rows) (gatesN 5 rows) = none := by
    unfold fault4
    rw [if_neg (by omega), if_neg (by omega), if_neg (by omega), if_neg (by omega)]
  rw [this]
  rfl
theorem lsz_len {d : Nat} (h : 1 ≤ d) (rows : List (Row d)) : rows.length ≤ lsz d rows := by
  obtain ⟨e, rfl⟩ : ∃ e, d = e + 1 := ⟨d - 1, by omega⟩
  induction rows with
  | nil => exact Nat.zero_le _
  | cons r rows ih =>
    have : 1 ≤ rsz (e + 1) r := by
      show 1 ≤ 1 + _
      omega
    show rows.length + 1 ≤ ((r :: rows).map (rsz (e + 1))).sum
    rw [List.map_cons, List.sum_cons]
    unfold lsz at ih
    omega
/-- the rows of the first law, given to a program -/
theorem good_rows {kt : Kit} (ok : kt.Ok) {K : PySem.W.Frag} {H0 : Hp} {r : Addr} {xs : List V} {rows : List (Row 5)} (h : H0 r = some (.lst xs)) (a : All2 (RowAt K H0 5) rows xs) (g : ∀ r ∈ rows, Good kt 5 false r) (few : lsz 5 rows ≤ 14) : RowsArg K H0 5 (.ref r) (some rows) :=
  .good h a (fun x hx => good_pre 5 false x (g x hx)) (by have := lsz_len (by decide) rows; omega) (by omega) fun which => by
    have := (names_sub g which (S := fun _ => True) fun R f p hf pg z hz => trivial).2
    omega
end OR

set_option Elab.async false
set_option maxRecDepth 100000
set_option maxHeartbeats 4000000
set_option linter.all false
namespace OR
open PySem PySem.Spec PyProof.Rows L2 TS2
/-! ### the bag of draws -/
def bagK (c : Addr) (at_ : Nat) (rest seed many : Int) : List (Key × V) := [(.inr "cells", .ref c), (.inr "at", .int at_), (.inr "rest", .int rest), (.inr "seed", .int seed), (.inr "many", .int many)]
/-- a bag stands at b, its cells at c -/
def Bg (H : Hp) (b c : Addr) : Prop := ∃ (at_ : Nat) (rest seed many : Int) (ns : List Int), H b = some (.dK (bagK c at_ rest seed many)) ∧ H c = some (.lst (ns.map V.int))
theorem Bg.ne {H : Hp} {b c : Addr} (h : Bg H b c) : b ≠ c := by
  obtain ⟨_, _, _, _, _, h1, h2⟩ := h
  exact ne_of h1 h2 (by intro z; cases z)
theorem dg_cells {H : Hp} {b c : Addr} {a : Nat} {r s m : Int} (h : H b = some (.dK (bagK c a r s m))) : DGet H b (.str "cells") (some (.ref c)) := DGet.k (k := .inr "cells") h
theorem dg_at {H : Hp} {b c : Addr} {a : Nat} {r s m : Int} (h : H b = some (.dK (bagK c a r s m))) : DGet H b (.str "at") (some (.int a)) := DGet.k (k := .inr "at") h
theorem dg_rest {H : Hp} {b c : Addr} {a : Nat} {r s m : Int} (h : H b = some (.dK (bagK c a r s m))) : DGet H b (.str "rest") (some (.int r)) := DGet.k (k := .inr "rest") h
theorem dg_seed {H : Hp} {b c : Addr} {a : Nat} {r s m : Int} (h : H b = some (.dK (bagK c a r s m))) : DGet H b (.str "seed") (some (.int s)) := DGet.k (k := .inr "seed") h
theorem dg_many {H : Hp} {b c : Addr} {a : Nat} {r s m : Int} (h : H b = some (.dK (bagK c a r s m))) : DGet H b (.str "many") (some (.int m)) := DGet.k (k := .inr "many") h
theorem dp_at {H : Hp} {b c : Addr} {a : Nat} {r s m : Int} (h : H b = some (.dK (bagK c a r s m))) : DPut H b (.str "at") (.int (a + 1)) (upd H b (.dK (bagK c (a + 1) r s m))) := DPut.k (k := .inr "at") h (small1000 (by show 5 ≤ 1000; decide))
theorem dp_rest {H : Hp} {b c : Addr} {a : Nat} {r s m z : Int} (h : H b = some (.dK (bagK c a r s m))) : DPut H b (.str "rest") (.int z) (upd H b (.dK (bagK c a z s m))) := DPut.k (k := .inr "rest") h (small1000 (by show 5 ≤ 1000; decide))
theorem dp_seed {H : Hp} {b c : Addr} {a : Nat} {r s m z : Int} (h : H b = some (.dK (bagK c a r s m))) : DPut H b (.str "seed") (.int z) (upd H b (.dK (bagK c a r z m))) := DPut.k (k := .inr "seed") h (small1000 (by show 5 ≤ 1000; decide))
theorem dp_many {H : Hp} {b c : Addr} {a : Nat} {r s m z : Int} (h : H b = some (.dK (bagK c a r s m))) : DPut H b (.str "many") (.int z) (upd H b (.dK (bagK c a r s z))) := DPut.k (k := .inr "many") h (small1000 (by show 5 ≤ 1000; decide))
/-- nothing but the bag has changed -/
def Only (H H' : Hp) (b : Addr) : Prop := ∀ x, x ≠ b → H' x = H x
theorem Only.refl (H : Hp) (b : Addr) : Only H H b := fun _ _ => rfl
theorem Only.trans {H H1 H2 : Hp} {b : Addr} (a : Only H H1 b) (c : Only H1 H2 b) : Only H H2 b := fun x hx => (c x hx).trans (a x hx)
theorem Only.upd {H : Hp} {b : Addr} {o : HO} : Only H (upd H b o) b := fun x hx => upd_ne hx
def spDraw : Sp := fun vs H Q _ => ∃ (b c : Addr) (m : Nat), vs = [.ref b, .int m] ∧ Bg H b c ∧ m < 1000000 ∧ ∀ (d : Nat) (H' : Hp), (d < m ∨ (d = 0 ∧ m < 2)) → Bg H' b c → Only H H' b → Q (.int d) H'
theorem fmod_nat {x : Int} {m : Nat} (h : 0 < m) : ∃ d : Nat, x.fmod m = d ∧ d < m := by
  have h0 := Int.fmod_nonneg_of_pos x (show (0 : Int) < m by omega)
  have h1 := Int.fmod_lt_of_pos x (show (0 : Int) < m by omega)
  exact ⟨(x.fmod m).toNat, by omega, by omega⟩
section
variable {P : Program} {w : World} {K : PySem.W.Frag} {mg : Str → Option Value} {base : Heap}
theorem ok_draw {f : Addr} {fd : FuncData} (F : FnP K "_law_draw" "_law_draw" s__law_draw f fd) (T : Tx w K mg) : FnOk P w K mg base CX0 1 f fd p__law_draw spDraw := by
  refine F.ok sc__law_draw (fun vs H Q E h => ?_) (fun cdv A outer s H vs Q E hr h => ?_)
  · obtain ⟨b, c, m, rfl, _⟩ := h
    rfl
  · obtain ⟨b, c, m, rfl, hb, hm, k⟩ := h
    have hu := hu_of hr
    have hbc := hb.ne
    obtain ⟨at_, rest, seed, many, ns, h1, h2⟩ := hb
    refine ⟨_, PSs.nox (pss_cons (ps_if (pt_cmpR op_lt (pv 1) pe_int (nomark _)) (pss_one (ps_ret pe_int)) pss_nil)
      (pss_cons (ps_dput hu (pv 0) pe_str (pe_op op_add (pe_dget hu (pv 0) pe_str (fun _ _ => rfl)) pe_int) rfl)
      (C8.pss_cut (ps_if (PW.pt (pw_and (pt_cmpR op_eq (pe_dget hu (pv 0) pe_str (fun _ _ => rfl)) pe_int (nomark _)) (pw_and1 (pt_cmpR op_lt (pe_dget hu (pv 0) pe_str (fun _ _ => rfl)) (pe_callB call_len_seq (by rfl) T.b_len PySem.boot_len (pa_cons (pe_dget hu (pv 0) pe_str (fun _ _ => rfl)) pa_nil)) (nomark _))))) (pss_cons (ps_set (i := 3) sc__law_draw.nd rfl (.inl rfl) (pe_ix ix_list (pe_dget hu (pv 0) pe_str (fun _ _ => rfl)) (pe_dget hu (pv 0) pe_str (fun _ _ => rfl)) (fun _ _ => rfl)))
      (pss_cons (ps_dput hu (pv 0) pe_str (pe_op op_add (pe_dget hu (pv 0) pe_str (fun _ _ => rfl)) pe_int) rfl)
      (pss_one (ps_if (pt_cmpR op_ge (pv 3) (pe_op op_pow pe_int pe_int) (nomark _)) (pss_one (ps_dput hu (pv 0) pe_str (pv 3) rfl)) (pss_one (ps_dput hu (pv 0) pe_str (pe_op op_modN (pe_callTy call_int1 (by rfl) T.b_int (by decide +kernel) (pa_cons (pe_op op_add (pe_op op_add (pe_op op_mul (pe_dget hu (pv 0) pe_str (fun _ _ => rfl)) pe_int) (pe_op op_modN (pe_callTy call_int1 (by rfl) T.b_int (by decide +kernel) (pa_cons (pv 3) pa_nil)) pe_int)) pe_int) pa_nil)) pe_int) rfl)))))) pss_nil)
      (C8.pss_cut (ps_if (pt_cmpR op_gt (pe_dget hu (pv 0) pe_str (fun _ _ => rfl)) pe_int (nomark _)) (pss_cons (ps_set (i := 4) sc__law_draw.nd rfl (.inl rfl) (pe_op op_modN (pe_callTy call_int1 (by rfl) T.b_int (by decide +kernel) (pa_cons (pe_dget hu (pv 0) pe_str (fun _ _ => rfl)) pa_nil)) (pv 1)))
      (pss_cons (ps_dput hu (pv 0) pe_str (pe_op op_fdivN (pe_dget hu (pv 0) pe_str (fun _ _ => rfl)) (pv 1)) rfl)
      (pss_one (ps_ret (pv 4))))) pss_nil)
      (pss_cons (ps_set (i := 2) sc__law_draw.nd rfl (.inl rfl) (pe_op op_modN (pe_callTy call_int1 (by rfl) T.b_int (by decide +kernel) (pa_cons (pe_op op_mul (pe_op op_add (pe_op op_add (pe_dget hu (pv 0) pe_str (fun _ _ => rfl)) (pe_op op_mul pe_int (pe_dget hu (pv 0) pe_str (fun _ _ => rfl)))) pe_int) pe_int) pa_nil)) pe_int))
      (pss_cons (ps_set (i := 2) sc__law_draw.nd rfl (.inl rfl) (pe_op op_modN (pe_callTy call_int1 (by rfl) T.b_int (by decide +kernel) (pa_cons (pe_op op_mul (pv 2) (pe_op op_add (pe_op op_fdivN (pv 2) pe_int) pe_int)) pa_nil)) pe_int))
      (pss_one (ps_ret (pe_op op_modN (pe_op op_fdivN (pe_op op_modN (pe_callTy call_int1 (by rfl) T.b_int (by decide +kernel) (pa_cons (pe_op op_mul (pv 2) (pe_op op_add (pe_op op_fdivN (pv 2) pe_int) pe_int)) pa_nil)) pe_int) pe_int) (pv 1)))))))))), ?_⟩
    refine ⟨_, rfl, _, _, rfl, rfl, _, rfl, ?_⟩
    refine ite2 (fun q => ?_) fun q => ?_
    · have q' : (m : Int) < 2 := of_decide_eq_true q
      exact k 0 H (.inr ⟨rfl, by omega⟩) ⟨at_, rest, seed, many, ns, h1, h2⟩ (Only.refl H b)
    · have q' : ¬ (m : Int) < 2 := fun z => q (decide_eq_true z)
      have hm0 : 0 < m := by omega
      refine ⟨_, rfl, b, _, rfl, dg_many h1, _, _, rfl, rfl, _, rfl, b, _, rfl, dp_many h1, ?_⟩
      have g1 : upd H b (.dK (bagK c at_ rest seed (many + 1))) b = some (.dK (bagK c at_ rest seed (many + 1))) := upd_same
      have g2 : upd H b (.dK (bagK c at_ rest seed (many + 1))) c = some (.lst (ns.map V.int)) := by rw [upd_ne hbc.symm]; exact h2
      have g3 : Only H (upd H b (.dK (bagK c at_ rest seed (many + 1)))) b := Only.upd
      generalize upd H b (.dK (bagK c at_ rest seed (many + 1))) = H1 at g1 g2 g3
      refine ⟨fun σ' H' => ∃ (a' : Nat) (r' s' m' : Int) (v : Option V), σ' = [some (.ref b), some (.int m), none, v, none] ∧ H' b = some (.dK (bagK c a' r' s' m')) ∧ H' c = some (.lst (ns.map V.int)) ∧ Only H H' b, ?_, ?_⟩
      · refine ⟨_, rfl, b, _, rfl, dg_rest g1, rfl, _, rfl, ?_⟩
        refine ite2 (fun e => ?_) fun e => ?_
        · refine ⟨_, rfl, b, _, rfl, dg_at g1, _, rfl, b, _, rfl, dg_cells g1, c, _, rfl, .inl (SqL.of g2), _, _, rfl, rfl, _, rfl, ?_⟩
          refine ite2 (fun e2 => ?_) fun e2 => ?_
          · have e3 : at_ < ns.length := by
              have := of_decide_eq_true e2
              rw [List.length_map] at this
              omega
            refine ⟨_, rfl, b, _, rfl, dg_cells g1, _, rfl, b, _, rfl, dg_at g1, c, _, _, .int ns[at_], rfl, rfl, SqL.of g2, atI_nat (by simp [e3]), ?_⟩
            refine ⟨_, rfl, b, _, rfl, dg_at g1, _, _, rfl, rfl, _, rfl, b, _, rfl, dp_at g1, ?_⟩
            have i1 : upd H1 b (.dK (bagK c (at_ + 1) rest seed (many + 1))) b = some (.dK (bagK c (at_ + 1) rest seed (many + 1))) := upd_same
            have i2 : upd H1 b (.dK (bagK c (at_ + 1) rest seed (many + 1))) c = some (.lst (ns.map V.int)) := by rw [upd_ne hbc.symm]; exact g2
            have i3 : Only H (upd H1 b (.dK (bagK c (at_ + 1) rest seed (many + 1)))) b := g3.trans Only.upd
            generalize upd H1 b (.dK (bagK c (at_ + 1) rest seed (many + 1))) = H2 at i1 i2 i3
            refine ⟨_, rfl, _, _, rfl, rfl, ⟨by decide, by decide, by decide⟩, _, _, rfl, rfl, _, rfl, ?_⟩
            refine ite2 (fun _ => ?_) fun _ => ?_
            · exact ⟨_, rfl, _, rfl, b, _, rfl, dp_rest i1, _, _, _, _, _, rfl, upd_same, by rw [upd_ne hbc.symm]; exact i2, i3.trans Only.upd⟩
            · refine ⟨_, rfl, b, _, rfl, dg_seed i1, _, _, rfl, rfl, .inr ⟨by decide, by decide⟩, _, rfl, .inl ⟨_, rfl, _, _, rfl, rfl, (by show (2147483399 : Int) ≠ 0; decide), _, _, rfl, rfl, _, _, rfl, rfl, .inl ⟨_, rfl, _, _, rfl, rfl, (by show (2147483647 : Int) ≠ 0; decide), ?_⟩⟩⟩
              exact ⟨_, rfl, b, _, rfl, dp_seed i1, _, _, _, _, _, rfl, upd_same, by rw [upd_ne hbc.symm]; exact i2, i3.trans Only.upd⟩
          · exact ⟨_, _, _, _, _, rfl, g1, g2, g3⟩
        · exact ⟨_, _, _, _, _, rfl, g1, g2, g3⟩
      · rintro σ' H2 ⟨a', r', s', m', v, rfl, g1, g2, g3⟩
        refine ⟨fun σ' H3 => H3 = H2 ∧ σ' = [some (.ref b), some (.int m), none, v, none], ?_, ?_⟩
        · refine ⟨_, rfl, b, _, rfl, dg_rest g1, _, _, rfl, rfl, _, rfl, ?_⟩
          refine ite2 (fun e => ?_) fun e => ⟨rfl, rfl⟩
          refine ⟨_, rfl, b, _, rfl, dg_rest g1, .inl ⟨_, rfl, _, rfl, _, _, rfl, rfl, by omega, ?_⟩⟩
          refine ⟨_, rfl, b, _, rfl, dg_rest g1, _, rfl, _, _, rfl, rfl, ⟨by omega, by omega⟩, _, rfl, b, _, rfl, dp_rest g1, _, rfl, ?_⟩
          obtain ⟨d, hd, hdm⟩ := fmod_nat (x := r') hm0
          show Q (V.int (r'.fmod (m : Nat))) _
          rw [hd]
          exact k d _ (.inl hdm) ⟨_, _, _, _, _, upd_same, by rw [upd_ne hbc.symm]; exact g2⟩ (g3.trans Only.upd)
        · rintro σ' H3 ⟨rfl, rfl⟩
          refine ⟨_, rfl, b, _, rfl, dg_seed g1, _, rfl, b, _, rfl, dg_many g1, _, _, rfl, rfl, .inl ⟨by decide, by decide⟩, _, _, rfl, rfl, _, _, rfl, rfl, _, _, rfl, rfl, .inr ⟨by decide, by decide⟩, .inl ⟨_, rfl, _, _, rfl, rfl, (by show (2147483647 : Int) ≠ 0; decide), ?_⟩⟩
          dsimp only
          generalize hx : ((s' + 7919 * m' + 1) * 48271).fmod 2147483647 = x1
          have x1a : 0 ≤ x1 := by rw [← hx]; exact Int.fmod_nonneg_of_pos _ (by decide)
          have x1b : x1 < 2147483647 := by rw [← hx]; exact Int.fmod_lt_of_pos _ (by decide)
          refine ⟨_, rfl, _, rfl, _, _, rfl, rfl, ⟨by decide, by decide⟩, _, _, rfl, rfl, _, _, rfl, rfl, .inl ⟨by omega, by omega⟩, .inl ⟨_, rfl, _, _, rfl, rfl, (by show (2147483647 : Int) ≠ 0; decide), ?_⟩⟩
          dsimp only
          generalize hy : (x1 * (x1.fdiv 1009 + 69621)).fmod 2147483647 = x2
          have x2a : 0 ≤ x2 := by rw [← hy]; exact Int.fmod_nonneg_of_pos _ (by decide)
          have x2b : x2 < 2147483647 := by rw [← hy]; exact Int.fmod_lt_of_pos _ (by decide)
          refine ⟨_, rfl, _, rfl, _, _, rfl, rfl, ⟨by decide, by decide⟩, _, _, rfl, rfl, _, _, rfl, rfl, .inl ⟨by omega, by omega⟩, .inl ⟨_, rfl, _, _, rfl, rfl, (by show (2147483399 : Int) ≠ 0; decide), ?_⟩⟩
          refine ⟨_, _, rfl, rfl, ⟨by decide, by decide⟩, _, rfl, _, _, rfl, rfl, by omega, ?_⟩
          obtain ⟨d, hd, hdm⟩ := fmod_nat (x := ((x2 * (x2.fdiv 2003 + 40692)).fmod 2147483399).fdiv 7) hm0
          show Q (V.int ((((x2 * (x2.fdiv 2003 + 40692)).fmod 2147483399).fdiv 7).fmod (m : Nat))) _
          rw [hd]
          exact k d _ (.inl hdm) ⟨_, _, _, _, _, g1, g2⟩ g3
end
end OR

set_option Elab.async false
set_option maxRecDepth 100000
set_option maxHeartbeats 4000000
set_option linter.all false
namespace OR
open PySem PySem.Spec PyProof.Rows L2 TS2
/-- all but the bag stays -/
def Bs (H H' : Hp) (b : Addr) : Prop := ∀ x o, H x = some o → x ≠ b → H' x = some o
theorem Bs.refl (H : Hp) (b : Addr) : Bs H H b := fun _ _ h _ => h
theorem Bs.trans {H H1 H2 : Hp} {b : Addr} (a : Bs H H1 b) (c : Bs H1 H2 b) : Bs H H2 b := fun x o h n => c x o (a x o h n) n
theorem Only.bs {H H' : Hp} {b : Addr} (h : Only H H' b) : Bs H H' b := fun x o e n => by rw [h x n]; exact e
theorem Same.bs {H H' : Hp} {b : Addr} (h : Same H H') : Bs H H' b := fun x o e _ => h x o e
theorem Bg.same {H H' : Hp} {b c : Addr} (e : Same H H') (h : Bg H b c) : Bg H' b c := by
  obtain ⟨a, r, s, m, ns, h1, h2⟩ := h
  exact ⟨a, r, s, m, ns, e _ _ h1, e _ _ h2⟩
theorem Bg.beside {H : Hp} {b c p : Addr} {o : HO} (h : Bg H b c) (n1 : p ≠ b) (n2 : p ≠ c) : Bg (upd H p o) b c := by
  obtain ⟨a, r, s, m, ns, h1, h2⟩ := h
  exact ⟨a, r, s, m, ns, by rw [upd_ne n1.symm]; exact h1, by rw [upd_ne n2.symm]; exact h2⟩
theorem Bg.tr {H : Hp} {b c p : Addr} (h : Bg H b c) (np : H p = none) : p ≠ b ∧ p ≠ c := by
  obtain ⟨a, r, s, m, ns, h1, h2⟩ := h
  exact ⟨(ne_of_none h1 np).symm, (ne_of_none h2 np).symm⟩
theorem bsL {K : PySem.W.Frag} {H H' : Hp} {b c l : Addr} {xs : List V} (e : Bs H H' b) (B : Bg H b c) (h : SqL K H l xs) : SqL K H' l xs := by
  obtain ⟨_, _, _, _, _, h1, _⟩ := B
  rcases h with (h | ⟨o, h⟩) | h
  · exact .inl (.inl (e _ _ h (ne_of h h1 (by intro z; cases z))))
  · exact .inl (.inr ⟨o, e _ _ h (ne_of h h1 (by intro z; cases z))⟩)
  · exact .inr h
theorem bsT {K : PySem.W.Frag} {H H' : Hp} {b c l : Addr} {xs : List V} (e : Bs H H' b) (B : Bg H b c) (h : SqT K H l xs) : SqT K H' l xs := by
  obtain ⟨_, _, _, _, _, h1, _⟩ := B
  rcases h with (h | ⟨o, h⟩) | h
  · exact .inl (.inl (e _ _ h (ne_of h h1 (by intro z; cases z))))
  · exact .inl (.inr ⟨o, e _ _ h (ne_of h h1 (by intro z; cases z))⟩)
  · exact .inr h
def spBag (K : PySem.W.Frag) : Sp := fun vs H Q _ => ∃ (a : Addr) (ns : List Int), vs = [.ref a] ∧ SqL K H a (ns.map V.int) ∧ ns.length ≤ 63 ∧ ∀ (b c : Addr) (H' : Hp), Same H H' → H b = none → H c = none → Bg H' b c → Q (.ref b) H'
def spOne (K : PySem.W.Frag) : Sp := fun vs H Q _ => ∃ (b c l : Addr) (xs : List V), vs = [.ref b, .ref l] ∧ Bg H b c ∧ SqL K H l xs ∧ xs ≠ [] ∧ xs.length < 1000000 ∧ ∀ (v : V) (H' : Hp), v ∈ xs → Bg H' b c → Only H H' b → Q v H'
def letters : Str := "abcdefghijklmnopqrstuvwxyz"
theorem letters_at (d : Nat) (h : d < 26) : ∃ c, letters.cps.toList[d]? = some c ∧ lowC c = true := by
  have key : (List.range 26).all (fun d => match letters.cps.toList[d]? with | some c => lowC c | none => false) = true := by decide +kernel
  have := List.all_eq_true.mp key d (List.mem_range.mpr h)
  cases e : letters.cps.toList[d]? with
  | none => rw [e] at this; cases this
  | some c => rw [e] at this; exact ⟨c, rfl, this⟩
theorem joinL_one : ∀ cs : List Nat, TL.joinL [] (cs.map fun c => [c]) = cs
  | [] => rfl
  | [_] => rfl
  | c :: d :: r => by
    have := joinL_one (d :: r)
    show [c] ++ ([] ++ TL.joinL [] ((d :: r).map fun c => [c])) = c :: d :: r
    rw [this]
    rfl
theorem word_of {cs : List Nat} (h0 : 1 ≤ cs.length) (h1 : cs.length ≤ 8) (hc : cs.all lowC = true) : isWord (SX.S cs) = true := by
  unfold isWord
  have e : (SX.S cs).length = cs.length := SX.S_len cs
  have e2 : (SX.S cs).cps.toList = cs := rfl
  rw [e, e2, decide_eq_true (by omega), decide_eq_true (by omega)]
  simpa [List.all_map] using hc
section
variable {P : Program} {w : World} {K : PySem.W.Frag} {mg : Str → Option Value} {base : Heap}
theorem ok_bag {f : Addr} {fd : FuncData} (F : FnP K "_law_bag" "_law_bag" s__law_bag f fd) (T : Tx w K mg) : FnOk P w K mg base CX0 1 f fd p__law_bag (spBag K) := by
  refine F.ok sc__law_bag (fun vs H Q E h => ?_) (fun cdv A outer s H vs Q E hr h => ?_)
  · obtain ⟨a, ns, rfl, _⟩ := h
    rfl
  · obtain ⟨a, ns, rfl, ha, hl, k⟩ := h
    refine ⟨_, PSs.nox (pss_one (ps_ret (pe_disp (pps_cons pe_str (pe_lc (own := [("_law_cell", 1)]) (g := (gName 1)) (by rfl) sc__law_bag.nd (pi_list (pe_slice sl_list (pv 0) po_none (po_some pe_int))) (blkOk_by (N := n__law_bag) (sc := defScope s__law_bag) (by decide +kernel)) (fun _ _ _ _ _ => (pg_name (i := 1) sc__law_bag.nd rfl (.inl rfl))) (fun _ _ _ _ _ => pts_nil) (fun _ _ _ _ _ => (pe_callTy call_int1 (by rfl) T.b_int (by decide +kernel) (pa_cons (pv 1) pa_nil)))) (pps_cons pe_str pe_int (pps_cons pe_str pe_int (pps_cons pe_str pe_int (pps_cons pe_str pe_int pps_nil))))) (by rfl) (by rfl) (fun z => by cases z) (by decide)))), ?_⟩
    intro p np
    have S1 : Same H (upd H p (.dK [])) := Same.new np
    refine ⟨_, rfl, 63, rfl, a, _, rfl, S1.seq ha, fun q nq => ?_⟩
    have ec : cutV (ns.map V.int) none (some 63) = ns.map V.int := by
      unfold cutV
      simp only [HT.sIx, List.drop_zero, Nat.sub_zero]
      exact List.take_of_length_le (by simp; omega)
    rw [ec]
    have S2 := S1.trans (Same.new (o := .lst (ns.map V.int)) nq)
    have hq : upd (upd H p (.dK [])) q (.lst (ns.map V.int)) q = some (.lst (ns.map V.int)) := upd_same
    have hp : upd (upd H p (.dK [])) q (.lst (ns.map V.int)) p = some (.dK []) := by rw [upd_ne (ne_of_none upd_same nq)]; exact upd_same
    generalize upd (upd H p (.dK [])) q (.lst (ns.map V.int)) = H2 at hq hp S2
    refine ⟨q, rfl, ⟨_, SqL.of hq⟩, fun D nD => ?_⟩
    refine lc_list (K := K) (a := q) (xs := ns.map V.int) (fun i H3 => H3 = upd H2 D (.lst ((ns.take i).map V.int))) rfl (fun i H3 _ e => ?_) (fun i x H3 hi e => ?_) (fun H3 e => ?_)
    · subst e
      exact SqL.of (by rw [upd_ne (ne_of_none hq nD)]; exact hq)
    · subst e
      obtain ⟨n, hn, rfl⟩ : ∃ n, ns[i]? = some n ∧ x = V.int n := by
        rw [List.getElem?_map] at hi
        cases e : ns[i]? with
        | none => rw [e] at hi; cases hi
        | some n => rw [e] at hi; exact ⟨n, rfl, (Option.some.inj hi).symm⟩
      refine ⟨rfl, ?_⟩
      refine tYes_ ?_
      refine iteT ?_
      refine ⟨_, rfl, .inl ⟨_, rfl, _, upd_same, small1000 (by rw [List.length_map, List.length_take]; omega), ?_⟩⟩
      rw [upd_upd, take_more hn, List.map_append]
      rfl
    · subst e
      rw [List.length_map, List.take_length]
      have pD : p ≠ D := ne_of_none hp nD
      refine ⟨by rw [upd_ne pD]; exact hp, bagK D 0 0 1 0, rfl, by show 5 ≤ 15; decide, ?_⟩
      refine k p D _ (fun b o hb => ?_) np (S2.free nD) ⟨0, 0, 1, 0, ns, ?_, ?_⟩
      · rw [upd_ne (ne_of_none hb np), upd_ne (ne_of_none (S2 _ _ hb) nD)]
        exact S2 _ _ hb
      · rw [upd_same]
        rfl
      · rw [upd_ne pD.symm, upd_same]
theorem ok_one {f : Addr} {fd : FuncData} (F : FnP K "_law_one" "_law_one" s__law_one f fd) (T : Tx w K mg) (G__law_draw : Def P w K mg base CX0 1 "_law_draw" p__law_draw spDraw) : FnOk P w K mg base CX0 2 f fd p__law_one (spOne K) := by
  refine F.ok sc__law_one (fun vs H Q E h => ?_) (fun cdv A outer s H vs Q E hr h => ?_)
  · obtain ⟨b, c, l, xs, rfl, _⟩ := h
    rfl
  · obtain ⟨b, c, l, xs, rfl, hb, hl, ne, few, k⟩ := h
    refine ⟨_, PSs.nox (pss_one (ps_ret (pe_ix ix_list (pv 1) (pe_fn G__law_draw (hr.mono (by omega)) (by rfl) pass0 (pa_cons (pv 0) (pa_cons (pe_callB call_len_seq (by rfl) T.b_len PySem.boot_len (pa_cons (pv 1) pa_nil)) pa_nil))) (fun _ _ => rfl)))), ?_⟩
    have h0 : 0 < xs.length := List.length_pos_iff.mpr ne
    refine ⟨_, rfl, _, rfl, _, rfl, l, _, rfl, .inl hl, b, c, xs.length, rfl, hb, few, fun d H' hd hb' ho => ?_⟩
    have hd' : d < xs.length := by omega
    exact ⟨l, xs, d, xs[d], rfl, rfl, bsL ho.bs hb hl, atI_nat (by simp [hd']), k _ _ (List.getElem_mem hd') hb' ho⟩
end
end OR

set_option Elab.async false
set_option maxRecDepth 100000
set_option maxHeartbeats 4000000
set_option linter.all false
namespace OR
open PySem PySem.Spec PyProof.Rows L2 TS2
/-! ### drawn words differ: the last letter is shifted -/
def lw (pre : List Nat) (m : Nat) : Str := SX.S (pre ++ [97 + m % 26])
theorem letters_at' (d : Nat) (h : d < 26) : letters.cps.toList[d]? = some (97 + d) := by
  have key : (List.range 26).all (fun d => decide (letters.cps.toList[d]? = some (97 + d))) = true := by decide +kernel
  exact of_decide_eq_true (List.all_eq_true.mp key d (List.mem_range.mpr h))
theorem low_at (d : Nat) (h : d < 26) : lowC (97 + d) = true := by
  have key : (List.range 26).all (fun d => lowC (97 + d)) = true := by decide +kernel
  exact List.all_eq_true.mp key d (List.mem_range.mpr h)
theorem find_letters (d : Nat) (h : d < 26) : Txt.find letters (SX.S [97 + d]) = d := by
  have key : (List.range 26).all (fun d => decide (Txt.find letters (SX.S [97 + d]) = d)) = true := by decide +kernel
  exact of_decide_eq_true (List.all_eq_true.mp key d (List.mem_range.mpr h))
theorem toL (l : List Nat) : (SX.S l).cps.toList = l := rfl
theorem cut_last (pre : List Nat) (c : Nat) : cutS (SX.S (pre ++ [c])) (some (((SX.S (pre ++ [c])).length : Int) - 1)) none = SX.S [c] := by
  have e : (SX.S (pre ++ [c])).length = pre.length + 1 := by rw [SX.S_len]; simp
  unfold cutS
  rw [e]
  have e2 : HT.sIx (pre.length + 1) 0 (some (((pre.length + 1 : Nat) : Int) - 1)) = pre.length := by
    unfold HT.sIx
    dsimp only
    rw [if_neg (by omega)]
    omega
  have e3 : HT.sIx (pre.length + 1) (pre.length + 1) none = pre.length + 1 := rfl
  rw [e2, e3, toL, List.drop_left]
  have e4 : pre.length + 1 - pre.length = 1 := by omega
  rw [e4]
  rfl
theorem cut_init (pre : List Nat) (c : Nat) : cutS (SX.S (pre ++ [c])) none (some (((SX.S (pre ++ [c])).length : Int) - 1)) = SX.S pre := by
  have e : (SX.S (pre ++ [c])).length = pre.length + 1 := by rw [SX.S_len]; simp
  unfold cutS
  rw [e]
  have e2 : HT.sIx (pre.length + 1) (pre.length + 1) (some (((pre.length + 1 : Nat) : Int) - 1)) = pre.length := by
    unfold HT.sIx
    dsimp only
    rw [if_neg (by omega)]
    omega
  have e3 : HT.sIx (pre.length + 1) 0 none = 0 := rfl
  rw [e2, e3, toL, List.drop_zero, Nat.sub_zero, List.take_left]
theorem S_app (a b : List Nat) : SX.S a ++ SX.S b = SX.S (a ++ b) := by
  show (⟨a.toArray ++ b.toArray⟩ : Str) = ⟨(a ++ b).toArray⟩
  simp
theorem lw_inj {pre : List Nat} {a b : Nat} (h : lw pre a = lw pre b) : a % 26 = b % 26 := by
  unfold lw at h
  have h1 : pre ++ [97 + a % 26] = pre ++ [97 + b % 26] := by
    have := congrArg (fun z : Str => z.cps.toList) h
    exact this
  have h2 := List.append_cancel_left h1
  have h3 := (List.cons.inj h2).1
  omega
theorem lw_of {pre : List Nat} {d : Nat} (h : d < 26) : SX.S (pre ++ [97 + d]) = lw pre d := by
  unfold lw
  rw [Nat.mod_eq_of_lt h]
theorem lw_word {pre : List Nat} (h : pre.all lowC = true) (l : pre.length ≤ 7) (m : Nat) : isWord (lw pre m) = true :=
  word_of (by simp) (by simp; omega) (by rw [List.all_append, h]; simp [low_at (m % 26) (Nat.mod_lt _ (by decide))])
/-- after 26 shifts a word isn't among fewer than 26 -/
theorem shifted {pre : List Nat} {m0 : Nat} {bad : List Str} (few : bad.length ≤ 25) (h : ∀ j, j < 26 → lw pre (m0 + j) ∈ bad) : False := by
  have nd : ((List.range 26).map fun j => lw pre (m0 + j)).Nodup := by
    refine List.pairwise_map.mpr ?_
    refine List.Pairwise.imp_of_mem (R := fun a b => a < b) ?_ List.pairwise_lt_range
    intro a b ha hb lt e
    have := lw_inj e
    have := List.mem_range.mp ha
    have := List.mem_range.mp hb
    omega
  have := nd.length_le_of_subset (l₂ := bad) fun z hz => by
    obtain ⟨j, hj, rfl⟩ := List.mem_map.mp hz
    exact h j (List.mem_range.mp hj)
  simp at this
  omega
/-- the state of a word through its shifts -/
def Shf (pre : List Nat) (m0 : Nat) (bad : List Str) (i : Nat) (z : Str) : Prop := (∃ m, z = lw pre m ∧ z ∉ bad) ∨ (z = lw pre (m0 + i) ∧ ∀ j, j < i → lw pre (m0 + j) ∈ bad)
theorem Shf.isw {pre : List Nat} {m0 : Nat} {bad : List Str} {i : Nat} {z : Str} (h : Shf pre m0 bad i z) : ∃ m, z = lw pre m := by
  rcases h with ⟨m, e, _⟩ | ⟨e, _⟩
  · exact ⟨m, e⟩
  · exact ⟨_, e⟩
theorem Shf.stay {pre : List Nat} {m0 : Nat} {bad : List Str} {i : Nat} {z : Str} (h : Shf pre m0 bad i z) (n : z ∉ bad) : Shf pre m0 bad (i + 1) z := by
  obtain ⟨m, e⟩ := h.isw
  exact .inl ⟨m, e, n⟩
theorem Shf.next {pre : List Nat} {m0 : Nat} {bad : List Str} {i m : Nat} {z : Str} (h : Shf pre m0 bad i z) (y : z ∈ bad) (e : z = lw pre m) : Shf pre m0 bad (i + 1) (lw pre (m + 1)) := by
  rcases h with ⟨m, _, n⟩ | ⟨e2, k⟩
  · exact absurd y n
  · have q := lw_inj (e.symm.trans e2)
    refine .inr ⟨?_, fun j hj => ?_⟩
    · unfold lw
      have : (m + 1) % 26 = (m0 + (i + 1)) % 26 := by omega
      rw [this]
    · by_cases c : j = i
      · rw [c, ← e2]; exact y
      · exact k j (by omega)
theorem Shf.end_ {pre : List Nat} {m0 : Nat} {bad : List Str} {z : Str} (few : bad.length ≤ 25) (h : Shf pre m0 bad 26 z) : z ∉ bad := by
  rcases h with ⟨_, _, n⟩ | ⟨_, k⟩
  · exact n
  · exact (shifted few k).elim
end OR

set_option Elab.async false
set_option maxRecDepth 100000
set_option maxHeartbeats 4000000
set_option linter.all false
namespace OR
open PySem PySem.Spec PyProof.Rows L2 TS2
structure WordsOk (ws taken : List Str) : Prop where
  w : ∀ z ∈ ws, isWord z = true
  n : ws.Nodup
  t : ∀ z ∈ ws, z ∉ taken
def spWords (K : PySem.W.Frag) : Sp := fun vs H Q _ => ∃ (b c tk : Addr) (n m : Nat) (taken : List Str), vs = [.ref b, .int n, .int m, .ref tk] ∧ Bg H b c ∧ 1 ≤ m ∧ m ≤ 8 ∧ n ≤ 10 ∧ taken.length ≤ 10 ∧ SqL K H tk (taken.map V.str) ∧
  ∀ (ws : List Str) (p : Addr) (H' : Hp), ws.length = n → WordsOk ws taken → Bg H' b c → Bs H H' b → H p = none → H' p = some (.lst (ws.map V.str)) → Q (.ref p) H'
theorem flat_strs (ws : List Str) : (ws.map V.str).all flatV = true := by rw [List.all_map]; simp [flatV]
theorem cut_w (pre : List Nat) (m : Nat) : cutS (lw pre m) (some (((lw pre m).length : Int) - 1)) none = SX.S [97 + m % 26] ∧ cutS (lw pre m) none (some (((lw pre m).length : Int) - 1)) = SX.S pre := ⟨cut_last pre _, cut_init pre _⟩
theorem next_at (m : Nat) : ((Txt.find letters (SX.S [97 + m % 26]) + 1) : Int).fmod 26 = (((m + 1) % 26 : Nat) : Int) := by
  rw [find_letters _ (Nat.mod_lt _ (by decide)), Int.fmod_eq_emod_of_nonneg _ (by decide)]
  omega
theorem next_w (pre : List Nat) (m : Nat) : SX.S pre ++ (⟨#[97 + (m + 1) % 26]⟩ : Str) = lw pre (m + 1) := S_app pre [97 + (m + 1) % 26]
section
variable {P : Program} {w : World} {K : PySem.W.Frag} {mg : Str → Option Value} {base : Heap}
theorem ok_words {f : Addr} {fd : FuncData} (F : FnP K "_law_words" "_law_words" s__law_words f fd) (T : Tx w K mg) (G__law_draw : Def P w K mg base CX0 1 "_law_draw" p__law_draw spDraw) : FnOk P w K mg base CX0 2 f fd p__law_words (spWords K) := by
  refine F.ok sc__law_words (fun vs H Q E h => ?_) (fun cdv A outer s H vs Q E hr h => ?_)
  · obtain ⟨b, c, tk, n, m, _, rfl, _⟩ := h
    rfl
  · obtain ⟨b, c, tk, n, m, taken, rfl, hb, m1, m8, n10, t10, htk, k⟩ := h
    refine ⟨_, PSs.nox (pss_cons (ps_set (i := 4) sc__law_words.nd rfl (.inr rfl) pe_str)
      (pss_cons (ps_set (i := 5) sc__law_words.nd rfl (.inl rfl) (pe_lst pa_nil))
      (pss_cons (ps_for PassesOwn.never rfl (pi_range1 (by rfl) T.b_range (pa_cons (pv 1) pa_nil)) (pg_name (i := 6) sc__law_words.nd rfl (.inl rfl)) (pss_cons (ps_set (i := 7) sc__law_words.nd rfl (.inl rfl) (pe_op op_add pe_int (pe_fn G__law_draw (hr.mono (by omega)) (by rfl) pass0 (pa_cons (pv 0) (pa_cons (pv 2) pa_nil)))))
      (pss_cons (ps_set (i := 8) sc__law_words.nd rfl (.inl rfl) (pe_join pe_str (pe_lc (own := [("_law_place", 11)]) (g := (gName 11)) (by rfl) sc__law_words.nd (pi_range1 (by rfl) T.b_range (pa_cons (pv 7) pa_nil)) (blkOk_by (N := n__law_words) (sc := defScope s__law_words) (by decide +kernel)) (fun _ _ _ _ _ => (pg_name (i := 11) sc__law_words.nd rfl (.inl rfl))) (fun _ _ _ _ _ => pts_nil) (fun _ _ _ _ _ => (pe_ix ix_str (pv 4) (pe_fn G__law_draw (hr.mono (by omega)) (by rfl) pass0 (pa_cons (pv 0) (pa_cons pe_int pa_nil))) (fun _ _ => rfl))))))
      (pss_cons (ps_for PassesOwn.never rfl (pi_range1 (by rfl) T.b_range (pa_cons pe_int pa_nil)) (pg_name (i := 9) sc__law_words.nd rfl (.inl rfl)) (pss_one (ps_if (PW.pt (pw_or (pt_cmpR op_in_seq (pv 8) (pv 3) (by rfl)) (pw_or1 (pt_cmpR op_in_seq (pv 8) (pv 5) (by rfl))))) (pss_cons (ps_set (i := 10) sc__law_words.nd rfl (.inl rfl) (pe_m1 PySem.F.slot_str_find PySem.F.type_str_find mt_find (pv 4) (pe_slice sl_str (pv 8) (po_some (pe_op op_sub (pe_callB call_len_str (by rfl) T.b_len PySem.boot_len (pa_cons (pv 8) pa_nil)) pe_int)) po_none)))
      (pss_one (ps_set (i := 8) sc__law_words.nd rfl (.inl rfl) (pe_op op_add_str (pe_slice sl_str (pv 8) po_none (po_some (pe_op op_sub (pe_callB call_len_str (by rfl) T.b_len PySem.boot_len (pa_cons (pv 8) pa_nil)) pe_int))) (pe_ix ix_str (pv 4) (pe_op op_modN (pe_op op_add (pv 10) pe_int) pe_int) (fun _ _ => rfl)))))) pss_nil)))
      (pss_one (ps_expr (pe_bm PySem.F.plainAttrs_list PySem.F.slot_list_append PySem.F.type_list_append mt_append (pv 5) (pa_cons (pv 8) pa_nil))))))))
      (pss_one (ps_ret (pv 5)))))), ?_⟩
    refine ⟨by show 0 ≤ sizeLine; decide, fun p np => ?_⟩
    obtain ⟨pb, pc⟩ := hb.tr np
    have S1 : Same H (upd H p (.lst [])) := Same.new np
    have hb1 := hb.same S1
    have hp1 : upd H p (.lst []) p = some (.lst []) := upd_same
    generalize upd H p (.lst []) = H1 at S1 hb1 hp1
    have w0 : WordsOk [] taken := ⟨fun z hz => (List.not_mem_nil hz).elim, List.nodup_nil, fun z hz => (List.not_mem_nil hz).elim⟩
    refine ⟨_, rfl, (n : Int), rfl, by omega, by omega, ?_⟩
    refine for_range (lo := 0) (n := n) (fun i σ H' => ∃ ws v6 v7 v8 v9 v10 v11, σ = [some (.ref b), some (.int n), some (.int m), some (.ref tk), some (.str letters), some (.ref p), v6, v7, v8, v9, v10, v11] ∧ ws.length = i ∧ WordsOk ws taken ∧ Bg H' b c ∧ Bs H H' b ∧ H' p = some (.lst (ws.map V.str)))
      ⟨[], _, _, _, _, _, _, rfl, rfl, w0, hb1, Same.bs S1, hp1⟩ (fun i σ H' hi q => ?_) (fun σ H' q => ?_)
    · obtain ⟨ws, v6, v7, v8, v9, v10, v11, rfl, wl, wok, hb1, bs1, hp1⟩ := q
      refine ⟨_, rfl, _, rfl, b, c, m, rfl, hb1, by omega, fun d H2 hd hb2 ho2 => ⟨_, _, rfl, rfl, ?_⟩⟩
      have bs2 : Bs H H2 b := bs1.trans ho2.bs
      have hp2 : H2 p = some (.lst (ws.map V.str)) := by rw [ho2 p pb]; exact hp1
      refine ⟨⟨_, rfl⟩, ?_⟩
      have sz : 1 ≤ (1 + (d : Int)).toNat ∧ (1 + (d : Int)).toNat ≤ 8 := by omega
      refine ⟨_, rfl, 1 + (d : Int), rfl, by omega, by omega, fun D nD => ?_⟩
      obtain ⟨Db, Dc⟩ := hb2.tr nD
      refine lc_range (lo := 0) (n := (1 + (d : Int)).toNat) (fun i H3 => ∃ cs : List Nat, cs.length = i ∧ (∀ x ∈ cs, ∃ e, e < 26 ∧ x = 97 + e) ∧ H3 D = some (.lst (cs.map fun c => V.str ⟨#[c]⟩)) ∧ Bg H3 b c ∧ Bs H2 H3 b)
        ⟨[], rfl, (fun x hx => by cases hx), upd_same, hb2.beside Db Dc, fun x o hx _ => by rw [upd_ne (ne_of_none hx nD)]; exact hx⟩ (fun i H3 hi q => ?_) (fun H3 q => ?_)
      · obtain ⟨cs, hcl, hca, hD, hb3, bs3⟩ := q
        refine ⟨rfl, ?_⟩
        refine tYes_ ?_
        refine iteT ?_
        refine ⟨_, rfl, _, rfl, b, c, 26, rfl, hb3, by decide, fun d2 H4 hd2 hb4 ho4 => ?_⟩
        have hd3 : d2 < 26 := by omega
        have hD4 : H4 D = some (.lst (cs.map fun c => V.str ⟨#[c]⟩)) := by rw [ho4 D Db]; exact hD
        refine ⟨letters, d2, 97 + d2, rfl, rfl, by decide +kernel, atI_nat (letters_at' d2 hd3), _, hD4, small1000 (by rw [List.length_map]; omega), cs ++ [97 + d2], by simp [hcl], ?_, ?_, hb4.beside Db Dc, fun x o hx hxb => ?_⟩
        · intro x hx
          rcases List.mem_append.mp hx with hx | hx
          · exact hca x hx
          · exact ⟨d2, hd3, List.mem_singleton.mp hx⟩
        · rw [upd_same, List.map_append]
          rfl
        · rw [upd_ne (ne_of_none hx nD)]
          exact ho4.bs x o (bs3 x o hx hxb) hxb
      · obtain ⟨cs, hcl, hca, hD, hb3, bs3⟩ := q
        have e1 : (cs.map fun c => V.str ⟨#[c]⟩) = (cs.map fun c => (⟨#[c]⟩ : Str)).map V.str := by rw [List.map_map]; rfl
        have e2 : (cs.map fun c => (⟨#[c]⟩ : Str)) = (cs.map fun c => [c]).map SX.S := by rw [List.map_map]; rfl
        refine ⟨"", D, cs.map fun c => (⟨#[c]⟩ : Str), rfl, rfl, .inl (SqL.of (by rw [← e1]; exact hD)), ?_, ?_⟩
        · have : ((cs.map fun c => (⟨#[c]⟩ : Str)).map (·.length)).sum ≤ cs.length * 1 := by
            clear hcl hca hD e1 e2
            induction cs with
            | nil => decide
            | cons a l ih =>
              simp only [List.map_cons, List.sum_cons, List.length_cons]
              have : (⟨#[a]⟩ : Str).length = 1 := rfl
              rw [this]
              omega
          have l0 : ("" : Str).length = 0 := by decide +kernel
          rw [l0]
          omega
        · have ez : Txt.join "" (cs.map fun c => (⟨#[c]⟩ : Str)) = SX.S cs := by
            have := SX.join_S [] (cs.map fun c => [c])
            rw [joinL_one] at this
            rw [e2]
            exact this
          rw [ez]
          have split : ∃ pre m0, m0 < 26 ∧ cs = pre ++ [97 + m0] := by
            have ne : cs ≠ [] := fun z => by rw [z] at hcl; simp at hcl; omega
            obtain ⟨m0, hm0, e⟩ := hca _ (List.getLast_mem ne)
            exact ⟨cs.dropLast, m0, hm0, by rw [← e, List.dropLast_concat_getLast ne]⟩
          obtain ⟨pre, m0, hm0, rfl⟩ := split
          have lpre : pre.length ≤ 7 := by simp at hcl; omega
          have apre : pre.all lowC = true := List.all_eq_true.mpr fun x hx => by
            obtain ⟨e, he, rfl⟩ := hca x (List.mem_append_left _ hx)
            exact low_at e he
          rw [lw_of hm0]
          have hp3 : H3 p = some (.lst (ws.map V.str)) := bs3 p _ hp2 pb
          have htk3 : SqL K H3 tk (taken.map V.str) := bsL (bs2.trans bs3) hb htk
          have few : (taken ++ ws).length ≤ 25 := by rw [List.length_append]; omega
          refine ⟨26, rfl, by decide, by decide, ?_⟩
          refine for_range (lo := 0) (n := 26) (fun i σ H' => H' = H3 ∧ ∃ z v6 v9 v10, Shf pre m0 (taken ++ ws) i z ∧ σ = [some (.ref b), some (.int n), some (.int m), some (.ref tk), some (.str letters), some (.ref p), v6, some (.int (1 + (d : Int))), some (.str z), v9, v10, v11])
            ⟨rfl, _, _, _, _, .inr ⟨rfl, fun j hj => by omega⟩, rfl⟩ (fun i σ H' hi q => ?_) (fun σ H' q => ?_)
          · obtain ⟨rfl, z, v6, v9, v10, sh, rfl⟩ := q
            refine ⟨_, rfl, _, rfl, tk, _, rfl, .inl htk3, rfl, flat_strs _, _, rfl, ?_⟩
            obtain ⟨mm, ez⟩ := sh.isw
            have zl : z.length ≤ sizeLine := by
              have := isWord_len (lw_word apre lpre mm)
              rw [← ez] at this
              have : (8 : Nat) ≤ sizeLine := by rw [sizeLine_eq]; decide
              omega
            by_cases c1 : z ∈ taken
            · refine iteT' ((inV_words _).trans (decide_eq_true c1)) ?_
              refine iteT ?_
              refine ⟨_, rfl, ⟨_, rfl⟩, _, rfl, _, rfl, z, rfl, zl, _, _, rfl, rfl, ?_⟩
              refine ⟨_, rfl, z, rfl, zl, _, _, rfl, rfl, _, rfl, _, rfl, z, rfl, zl, _, _, rfl, rfl, ?_⟩
              refine ⟨_, rfl, z, rfl, zl, ?_⟩
              subst ez
              rw [(cut_w pre mm).1, (cut_w pre mm).2]
              refine ⟨_, rfl, _, rfl, _, _, rfl, rfl, _, _, rfl, rfl, (by show (26 : Int) ≠ 0; decide), ?_⟩
              dsimp only
              rw [next_at]
              refine ⟨letters, _, _, rfl, rfl, (by decide +kernel), atI_nat (letters_at' ((mm + 1) % 26) (Nat.mod_lt _ (by decide))), _, _, rfl, rfl, ?_, ?_⟩
              · rw [SX.S_len]
                show pre.length + 1 ≤ _
                rw [sizeLine_eq]; omega
              rw [next_w]
              exact ⟨rfl, _, _, _, _, sh.next (List.mem_append_left _ c1) rfl, rfl⟩
            · refine iteF' ((inV_words _).trans (decide_eq_false c1)) ?_
              refine ⟨_, rfl, _, rfl, p, _, rfl, .inl (SqL.of hp3), rfl, flat_strs _, _, rfl, ?_⟩
              by_cases c2 : z ∈ ws
              · refine iteT' ((inV_words _).trans (decide_eq_true c2)) ?_
                refine ⟨_, rfl, ⟨_, rfl⟩, _, rfl, _, rfl, z, rfl, zl, _, _, rfl, rfl, ?_⟩
                refine ⟨_, rfl, z, rfl, zl, _, _, rfl, rfl, _, rfl, _, rfl, z, rfl, zl, _, _, rfl, rfl, ?_⟩
                refine ⟨_, rfl, z, rfl, zl, ?_⟩
                subst ez
                rw [(cut_w pre mm).1, (cut_w pre mm).2]
                refine ⟨_, rfl, _, rfl, _, _, rfl, rfl, _, _, rfl, rfl, (by show (26 : Int) ≠ 0; decide), ?_⟩
                dsimp only
                rw [next_at]
                refine ⟨letters, _, _, rfl, rfl, (by decide +kernel), atI_nat (letters_at' ((mm + 1) % 26) (Nat.mod_lt _ (by decide))), _, _, rfl, rfl, ?_, ?_⟩
                · rw [SX.S_len]
                  show pre.length + 1 ≤ _
                  rw [sizeLine_eq]; omega
                rw [next_w]
                exact ⟨rfl, _, _, _, _, sh.next (List.mem_append_right _ c2) rfl, rfl⟩
              · refine iteF' ((inV_words _).trans (decide_eq_false c2)) ?_
                exact ⟨rfl, z, _, _, _, sh.stay (fun h => by rcases List.mem_append.mp h with h | h; exact c1 h; exact c2 h), rfl⟩
          · obtain ⟨rfl, z, v6, v9, v10, sh, rfl⟩ := q
            have nb := sh.end_ few
            obtain ⟨mm, ez⟩ := sh.isw
            refine ⟨_, rfl, Or.inl ⟨rfl, _, SqL.of hp3⟩, _, rfl, p, _, _, rfl, rfl, hp3, by rw [sizeLine_eq, List.length_map]; omega, ?_⟩
            refine ⟨ws ++ [z], _, _, _, _, _, _, rfl, by simp [wl], ⟨fun x hx => ?_, ?_, fun x hx => ?_⟩, hb3.beside pb pc, fun x o hx hxb => ?_, ?_⟩
            · rcases List.mem_append.mp hx with hx | hx
              · exact wok.w x hx
              · rw [List.mem_singleton.mp hx, ez]; exact lw_word apre lpre mm
            · refine List.nodup_append.mpr ⟨wok.n, by simp, fun a ha b' hb' e => ?_⟩
              rw [List.mem_singleton.mp hb'] at e
              exact nb (List.mem_append_right _ (e ▸ ha))
            · rcases List.mem_append.mp hx with hx | hx
              · exact wok.t x hx
              · rw [List.mem_singleton.mp hx]; exact fun h => nb (List.mem_append_left _ h)
            · rw [upd_ne (ne_of_none hx np)]
              exact bs3 x o (bs2 x o hx hxb) hxb
            · rw [upd_same, List.map_append]
              rfl
    · obtain ⟨ws, v6, v7, v8, v9, v10, v11, rfl, wl, wok, hb2, bs2, hp2⟩ := q
      refine ⟨_, rfl, ?_⟩
      exact k ws p H' wl wok hb2 bs2 np hp2
end
end OR

set_option Elab.async false
set_option maxRecDepth 100000
set_option maxHeartbeats 4000000
set_option linter.all false
/-! d.keys() and sorted(d.keys()) of a dict with text keys -/
namespace L2
open PySem PySem.Spec PyProof.Rows TS2
def KeysO (v d : Addr) : HO := .ext fun h => W.KdlKeysView h v d
theorem keysO_ok {P : Program} {w : World} {H : Hp} {h : Heap} {v d : Addr} (e : h.get? v = some { cls := .type "dict_keys", data := .fields #[.ref d] }) : ObjOk P w H h v (KeysO v d) := by
  refine ⟨⟨_, e, rfl, rfl⟩, ⟨_, e⟩, fun h h' p k => ?_⟩
  obtain ⟨o, e, q⟩ := p
  exact ⟨o, k _ e, q⟩
def rKeysK : V → List V → Hp → VK → Prop := fun x xs H Q => ∃ (a : Addr) (kvs : List (Key × V)), x = .ref a ∧ xs = [] ∧ H a = some (.dK kvs) ∧ ∀ p, H p = none → Q (.ref p) (upd H p (KeysO p a))
theorem mt_keysK {X : Cx} : MtR X "dict.keys" rKeysK := by
  intro pins s σ H x xs v us Q I rx rs h
  obtain ⟨a, kvs, rfl, rfl, ha, q⟩ := h
  cases rx
  cases rs
  have hob := I.hok a _ ha
  simp only [ObjOk] at hob
  obtain ⟨_, sm, vs, kv, ob⟩ := hob
  obtain ⟨es, ep, raw, _⟩ := ob.raw
  refine call_meetsIn (T := "dict") (name := "keys") PySem.F.slot_dict_keys raw.typeIs PySem.F.entry_dict_keys (by rfl) (meets_dict_keys_raw a sm) ⟨⟨es, ep, raw⟩, ?_⟩
  have hf : H s.heap.objs.size = none := I.hok.fresh (Nat.le_refl _)
  have kp : ∀ b u, s.heap.get? b = some u → (s.heap.push { cls := .type "dict_keys", data := .fields #[.ref a] }).get? b = some u := fun b u e => Heap.get?_push_of_some _ e
  refine ⟨.ref s.heap.objs.size, upd H s.heap.objs.size (KeysO s.heap.objs.size a), ?_, rfl, q _ hf⟩
  exact I.call (ch := []) (Un.laid kp (Nat.le_refl _) hf) (I.hok.laid kp (Nat.le_refl _) (keysO_ok (Heap.get?_push_size _ rfl))) I.bare (fun _ z => nomatch z)
theorem strs_keys {P : Program} {w : World} : ∀ {ks : List Str} {vs : List (Key × Value)} {out : List Value}, vs.map (·.1) = ks.map Sum.inr → out.length = vs.length → (∀ (j : Nat) (v : Value), out[j]? = some v → ∃ k x, vs[j]? = some (k, x) ∧ (mixKind P w).is k v = true) → StrsAre out ks
  | [], [], [], _, _, _ => .nil
  | [], _ :: _, _, h, _, _ => by simp at h
  | _ :: _, [], _, h, _, _ => by simp at h
  | k :: ks, v :: vs, [], _, l, _ => by simp at l
  | [], [], _ :: _, _, l, _ => by simp at l
  | k :: ks, v :: vs, o :: out, h, l, f => by
    simp only [List.map_cons, List.cons.injEq] at h
    obtain ⟨k', x, e, i⟩ := f 0 o rfl
    cases Option.some.inj e
    rw [show k' = Sum.inr k from h.1] at i
    have i : Value.isStrOf k o = true := i
    have ih := strs_keys (P := P) (w := w) (ks := ks) (vs := vs) (out := out) h.2 (by simpa using l) fun j v hj => f (j + 1) v hj
    cases o with
    | str z u =>
      have e2 : z = k := eq_of_beq i
      subst e2
      exact .cons z u ih
    | _ => cases i
theorem den_collect {prog : Program} {w : World} {args : Args} : (model prog w).den (Code.builtin "proto.collect" args) = Builtin.«proto.collect» args := by
  simp only [PySem.model, PySem.denote, PySem.F.entry_proto_collect]
theorem den_iadd {prog : Program} {w : World} {args : Args} : (model prog w).den (Code.builtin "list.__iadd__" args) = Builtin.«list.__iadd__» args := by
  simp only [PySem.model, PySem.denote, PySem.F.entry_list_iadd]
theorem slot_iadd {x y : Value} : slotArgs "__iadd__" 1 { pos := [x, y] } = pure (x, [y]) := rfl
theorem iadd_src {prog : Program} {w : World} {A : Around} {s : Shared} {T : String} {r d S : Addr} {n : Nat} {P : Nat → Value → Prop} {OK : Heap → Prop} {R : Result → Shared → Prop} (src : W.KdlSrc prog w T r d n P OK) (hh : A.handled = none) (ok : OK s.heap) (sr : S ≠ r) (sd : S ≠ d) (hS : s.heap.get? S = some { cls := .type "list", data := .seq #[] 0 }) (few : n ≤ sizeLine)
    (k : ∀ (h' : Heap) (tk : Nat) (acc : Array Value) (c : Nat), (∀ (b : Addr) (o : Obj), b ≠ S → s.heap.get? b = some o → h'.get? b = some o) → h'.get? S = some { cls := .type "list", data := .seq acc c } → ItemsOf P acc n → R (.ok (.ret (.ref S))) { heap := h', gens := s.gens, drawn := s.drawn, toks := tk, os := s.os }) :
    codeAny (model prog w) A (.builtin "list.__iadd__" { pos := [.ref S, .ref r] }) R s := by
  refine codeAny_of_tree ?_
  rw [den_iadd]
  unfold Builtin.«list.__iadd__»
  rw [slot_iadd]
  refine wpAny_bind (wpAny_pure ?_)
  show wpAny (model prog w) A.in1 (Builtin.List.listExtendWith (.ref S) (.ref r) (.ref S)) _ _ _
  exact W.kdl_extend src (A := A) (s := s) (R := R) hh ok S sr sd (.ref S) 0 hS k few
theorem collect_src {prog : Program} {w : World} {A : Around} {E : Value → Shared → Prop} {s : Shared} {T : String} {r d : Addr} {n : Nat} {P : Nat → Value → Prop} {OK : Heap → Prop} {R : List Value → Shared → Prop} (src : W.KdlSrc prog w T r d n P OK) (hh : A.handled = none) (ok : OK s.heap) (few : n ≤ sizeLine)
    (k : ∀ (h' : Heap) (tk : Nat) (acc : Array Value), (∀ (b : Addr) (o : Obj), s.heap.get? b = some o → h'.get? b = some o) → s.heap.objs.size < h'.objs.size → ItemsOf P acc n → R acc.toList { heap := h', gens := s.gens, drawn := s.drawn, toks := tk, os := s.os }) : wpAny (model prog w) A (collect (.ref r)) R E s := by
  obtain ⟨t1, t2⟩ := src.there _ ok
  have kp : ∀ b u, s.heap.get? b = some u → (s.heap.push { cls := .type "list", data := .seq #[] }).get? b = some u := fun b u e => Heap.get?_push_of_some _ e
  unfold PySem.collect
  refine wpAny_bind (wpAny_runValue ?_)
  refine codeAny_of_tree ?_
  rw [den_collect]
  unfold Builtin.«proto.collect»
  refine wpAny_bind (wpAny_newList ?_ (by decide))
  refine wpAny_pure ⟨Code.quiet_builtin _ (by decide +kernel), ?_⟩
  refine iadd_src src (s := { heap := s.heap.push { cls := .type "list", data := .seq #[] }, gens := s.gens, drawn := s.drawn, toks := s.toks, os := s.os }) hh (src.keep _ _ ok fun b _ o e => kp b o e) (Nat.ne_of_gt t1) (Nat.ne_of_gt t2) (Heap.get?_push_size _ rfl) few fun h' tk acc c k1 hS hit => ?_
  refine wpAny_bind (wpAny_load hS ?_)
  refine wpAny_pure ?_
  refine k h' tk acc (fun b o e => ?_) (Heap.lt_size hS) hit
  exact k1 b o (Nat.ne_of_lt (Heap.lt_size e)) (kp b o e)
section
variable {P : Program} {w : World} {A : Around} {E : Value → Shared → Prop} {s : Shared} {a v : Addr} {ks : List Str}
theorem keys_sorted {Q : Value → Shared → Prop} {vs : List (Key × Value)} (hv : W.KdlKeysView s.heap v a) (D : Heap.DictOf (mixKind P w) s.heap a vs) (hk : vs.map (·.1) = ks.map Sum.inr) (hh : A.handled = none) (hn : ks.length < scanBound)
    (hQ : ∀ s' p (out : Array Value) (c : Nat) (ys : List Str), (∀ b o, s.heap.get? b = some o → s'.heap.get? b = some o) → s'.gens = s.gens → s'.os = s.os → s.heap.objs.size ≤ p →
      s'.heap.get? p = some (seqObj "list" out c) → StrsAre out.toList ys → ys.Perm ks → sortedS ys = true → Q (.ref p) s') :
    wpAny (model P w) A (call (.builtin "sorted") [.ref v]) Q E s := by
  obtain ⟨ob, es0, ep, hob, hD⟩ := id D
  have lvs : vs.length = ks.length := by have := congrArg List.length hk; simpa using this
  have fits : ks.length ≤ sizeLine := fits_of_scanBound hn
  refine Calls.call_function_entry kind_sorted plain_sorted entry_sorted (args_sorted1 _) ?_
  unfold Builtin.«sorted»
  refine wpAny_bind (m := checkCount "sorted" 1 1 _) (wpAny_pure ?_)
  refine wpAny_bind (collect_src (W.kdl_keys (knd := mixKind P w) (d := a) (r := v) (kvs := vs) (ep := ep)) (A := A.in1) hh ⟨hv, ?_⟩ (by rw [lvs]; exact fits) fun h1 tk acc k1 hz0 hit => ?_)
  · exact ⟨ob, es0, hob, hD⟩
  have hS : StrsAre acc.toList ks := strs_keys (P := P) (w := w) hk (by rw [Array.length_toList]; exact hit.1) fun j x hj => hit.2 j x (by rw [← Array.getElem?_toList]; exact hj)
  have hl : acc.toList.length ≤ sizeLine := by rw [Array.length_toList, hit.1, lvs]; exact fits
  refine wpAny_bind (wpAny_newList ?_ hl)
  have hoL : (h1.push (seqObj "list" acc.toList.toArray 0)).get? h1.objs.size = some (seqObj "list" acc.toList.toArray 0) := Heap.get?_push_size _ rfl
  refine wpAny_bind (wpAny_holding (wpAny_call_entry slot_list_sort ⟨_, hoL, rfl⟩ entry_list_sort
    (list_sort_treeKAny strKind_oneLt (s := { heap := h1.push (seqObj "list" acc.toList.toArray 0), gens := s.gens, drawn := s.drawn, toks := tk, os := s.os }) hoL hS.keysOf (fun v₁ v₂ rest e => keyKind_strs (by rw [← e]; exact hS)) hl fun st' hp hs => ⟨_, rfl, ?_⟩) (args_list_sort _)))
  obtain ⟨ys, e1, e2, e3⟩ := sorted_out_str hS hp hs
  obtain ⟨c, hc⟩ := sortedHeap_at (vs := acc.toList) (out := (arrOf st').map (·.2)) hoL
  have hz : s.heap.objs.size ≤ h1.objs.size := Nat.le_of_lt hz0
  refine wpAny_pure ⟨_, rfl, hQ _ h1.objs.size _ c ys (fun b u e => ?_) rfl rfl hz hc e1 e2 e3⟩
  have q := k1 b u e
  have hlt := Heap.lt_size q
  show (sortedHeap (h1.push (seqObj "list" acc.toList.toArray 0)) h1.objs.size acc.toList _).get? b = some u
  rw [sortedHeap_old (Nat.ne_of_lt hlt) (by rw [size_push']; exact Nat.lt_succ_of_lt hlt)]
  exact Heap.get?_push_of_some _ q
end
section
variable {X : Cx}
def rSortedKeys : List V → Hp → VK → Prop := fun vs H Q => ∃ (v a : Addr) (kvs : List (Key × V)) (ks : List Str), vs = [V.ref v] ∧ H v = some (KeysO v a) ∧ H a = some (.dK kvs) ∧ kvs.map (·.1) = ks.map Sum.inr ∧ ks.length < scanBound ∧
  ∀ (ys : List Str) (p : Addr), ys.Perm ks → sortedS ys = true → H p = none → Q (.ref p) (upd H p (.lst (ys.map V.str)))
theorem cr_sortedKeys (hc : X.calm = true) : CallR X (.builtin "sorted") rSortedKeys := by
  intro pins s σ H vs us Q I r h
  obtain ⟨v, a, kvs, ks, rfl, hv, ha, hk, hn, q⟩ := h
  rw [Vals.ref1 r]
  have hob := I.hok a _ ha
  simp only [ObjOk] at hob
  obtain ⟨_, sm, ws, kv, ob⟩ := hob
  refine keys_sorted (I.hok v _ hv).1 ob (by rw [← kv.keys]; exact hk) (I.ok.hd hc) hn fun s' p out c ys k g o hp hg hS pm hs => ?_
  have hlen : (ys.map V.str).length ≤ sizeLine := by rw [List.length_map, pm.length_eq]; exact fits_of_scanBound hn
  have hf : H p = none := I.hok.fresh hp
  have J : Inv X pins σ (upd H p (.lst (ys.map V.str))) { s with heap := s'.heap, gens := s'.gens, drawn := s'.drawn, toks := s'.toks } :=
    I.call (ch := []) (Un.laid k hp hf) (I.hok.laid k hp ⟨hlen, out.toList, c, vals_of_strs hS, hg⟩) (by rw [g]; exact I.bare) (fun _ z => nomatch z)
  have e : s' = { s with heap := s'.heap, gens := s'.gens, drawn := s'.drawn, toks := s'.toks } := by
    cases s'
    cases s
    cases o
    rfl
  rw [e]
  exact ⟨.ref p, _, J, rfl, q ys p pm hs hf⟩
end
end L2

set_option Elab.async false
set_option maxRecDepth 100000
set_option maxHeartbeats 8000000
set_option linter.all false
namespace OR
open PySem PySem.Spec PyProof.Rows L2 TS2
def kitL (a s : Addr) (room : Int) (g i l sl w : Addr) : List (Key × V) := [(.inr "asks", .ref a), (.inr "signals", .ref s), (.inr "room", .int room), (.inr "deepest", .int 5), (.inr "gates", .ref g), (.inr "inputs", .ref i), (.inr "labels", .ref l), (.inr "slots", .ref sl), (.inr "words", .ref w)]
/-- a bag and a kit stand -/
structure GenAt (K : PySem.W.Frag) (H : Hp) (b c kd : Addr) (kt : Kit) (room : Int) (a s g i l sl w : Addr) : Prop where
  bg : Bg H b c
  ob : H kd = some (.dK (kitL a s room g i l sl w))
  ha : H a = some (.dK kt.ka)
  hs : H s = some (.dK kt.ks)
  hg : H g = some (.lst (kt.gates.map V.str))
  hi : H i = some (.tup (kt.inputs.map V.str))
  hl : H l = some (.lst (kt.labels.map V.str))
  hsl : H sl = some (.lst (kt.slots.map V.str))
  hw : H w = some (.lst (kt.words.map V.str))
  nb : b ≠ kd ∧ b ≠ a ∧ b ≠ s
  nk : kd ≠ a ∧ kd ≠ s ∧ kd ≠ c
def Gen (K : PySem.W.Frag) (H : Hp) (b c kd : Addr) (kt : Kit) (room : Int) : Prop := ∃ a s g i l sl w, GenAt K H b c kd kt room a s g i l sl w
theorem Bg.dk {H : Hp} {b c : Addr} (h : Bg H b c) : ∃ kvs, H b = some (.dK kvs) := by
  obtain ⟨_, _, _, _, _, h1, _⟩ := h
  exact ⟨_, h1⟩
theorem GenAt.same {K : PySem.W.Frag} {H H' : Hp} {b c kd : Addr} {kt : Kit} {room : Int} {a s g i l sl w : Addr} (h : GenAt K H b c kd kt room a s g i l sl w) (e : Same H H') : GenAt K H' b c kd kt room a s g i l sl w :=
  ⟨h.bg.same e, e _ _ h.ob, e _ _ h.ha, e _ _ h.hs, e _ _ h.hg, e _ _ h.hi, e _ _ h.hl, e _ _ h.hsl, e _ _ h.hw, h.nb, h.nk⟩
theorem Gen.same {K : PySem.W.Frag} {H H' : Hp} {b c kd : Addr} {kt : Kit} {room : Int} (h : Gen K H b c kd kt room) (e : Same H H') : Gen K H' b c kd kt room := by
  obtain ⟨a, s, g, i, l, sl, w, h⟩ := h
  exact ⟨a, s, g, i, l, sl, w, h.same e⟩
/-- what isn't a dict with keys isn't the bag -/
theorem GenAt.bs {K : PySem.W.Frag} {H H' : Hp} {b c kd : Addr} {kt : Kit} {room : Int} {a s g i l sl w : Addr} (h : GenAt K H b c kd kt room a s g i l sl w) (e : Bs H H' b) (hb : Bg H' b c) : GenAt K H' b c kd kt room a s g i l sl w := by
  obtain ⟨kvs, hk⟩ := h.bg.dk
  have L : ∀ {x : Addr} {xs : List V}, H x = some (.lst xs) → H' x = some (.lst xs) := fun q => e _ _ q (ne_of q hk (by intro z; cases z))
  exact ⟨hb, e _ _ h.ob h.nb.1.symm, e _ _ h.ha h.nb.2.1.symm, e _ _ h.hs h.nb.2.2.symm, L h.hg, e _ _ h.hi (ne_of h.hi hk (by intro z; cases z)), L h.hl, L h.hsl, L h.hw, h.nb, h.nk⟩
theorem GenAt.room {K : PySem.W.Frag} {H : Hp} {b c kd : Addr} {kt : Kit} {room : Int} {a s g i l sl w : Addr} (h : GenAt K H b c kd kt room a s g i l sl w) (z : Int) : GenAt K (upd H kd (.dK (kitL a s z g i l sl w))) b c kd kt z a s g i l sl w := by
  have L : ∀ {x : Addr} {o : HO}, H x = some o → x ≠ kd → upd H kd (.dK (kitL a s z g i l sl w)) x = some o := fun q n => by rw [upd_ne n]; exact q
  have N : ∀ {x : Addr} {o : HO}, H x = some o → (∀ kvs, o ≠ .dK kvs) → x ≠ kd := fun q n e => by
    subst e
    rw [h.ob] at q
    exact n _ (Option.some.inj q).symm
  exact ⟨h.bg.beside h.nb.1.symm h.nk.2.2, upd_same, L h.ha h.nk.1.symm, L h.hs h.nk.2.1.symm, L h.hg (N h.hg (by intro _ z; cases z)), L h.hi (N h.hi (by intro _ z; cases z)), L h.hl (N h.hl (by intro _ z; cases z)), L h.hsl (N h.hsl (by intro _ z; cases z)), L h.hw (N h.hw (by intro _ z; cases z)), h.nb, h.nk⟩
/-- all but the bag and the kit stays -/
abbrev C2 (b kd : Addr) : Addr → Prop := fun x => x = b ∨ x = kd
theorem Bs.k2 {H H' : Hp} {b kd : Addr} (h : Bs H H' b) : Kp (C2 b kd) H H' := fun x o e n => h x o e fun z => n (.inl z)
section
variable {K : PySem.W.Frag} {H : Hp} {b c kd : Addr} {kt : Kit} {room : Int} {a s g i l sl w : Addr} (h : GenAt K H b c kd kt room a s g i l sl w)
include h
theorem kg_asks : DGet H kd (.str "asks") (some (.ref a)) := DGet.k (k := .inr "asks") h.ob
theorem kg_signals : DGet H kd (.str "signals") (some (.ref s)) := DGet.k (k := .inr "signals") h.ob
theorem kg_room : DGet H kd (.str "room") (some (.int room)) := DGet.k (k := .inr "room") h.ob
theorem kg_deepest : DGet H kd (.str "deepest") (some (.int 5)) := DGet.k (k := .inr "deepest") h.ob
theorem kg_gates : DGet H kd (.str "gates") (some (.ref g)) := DGet.k (k := .inr "gates") h.ob
theorem kg_inputs : DGet H kd (.str "inputs") (some (.ref i)) := DGet.k (k := .inr "inputs") h.ob
theorem kg_labels : DGet H kd (.str "labels") (some (.ref l)) := DGet.k (k := .inr "labels") h.ob
theorem kg_slots : DGet H kd (.str "slots") (some (.ref sl)) := DGet.k (k := .inr "slots") h.ob
theorem kg_words : DGet H kd (.str "words") (some (.ref w)) := DGet.k (k := .inr "words") h.ob
theorem kp_room (z : Int) : DPut H kd (.str "room") (.int z) (upd H kd (.dK (kitL a s z g i l sl w))) := DPut.k (k := .inr "room") h.ob (small1000 (by show 9 ≤ 1000; decide))
end
theorem bs_free {H H' : Hp} {b c t : Addr} (e : Bs H H' b) (hb : Bg H' b c) (n : H' t = none) : H t = none := by
  cases q : H t with
  | none => rfl
  | some o => rw [e t o q (Bg.tr hb n).1] at n; cases n
/-- a row of words -/
theorem row_words {K : PySem.W.Frag} {H H' : Hp} {t : Addr} {w : Str} {ps : List Str} {d : Nat} (n : H t = none) (e : H' t = some (.tup (.str w :: ps.map V.str))) : RowAt K (res (NL H) H') (d + 1) (w, ps.map Pt.word) (.ref t) := by
  refine ⟨t, ps.map V.str, rfl, SqT.of (by rw [res_of (S := NL H) (NL.new n)]; exact e), ?_⟩
  clear e
  induction ps with
  | nil => exact .nil
  | cons z ps ih => exact .cons rfl ih
structure Kit.Words (kt : Kit) : Prop where
  a : kt.asks ≠ [] ∧ kt.asks.length ≤ 10 ∧ ∀ z ∈ kt.asks, isWord z = true
  s : kt.sigs.length ≤ 10 ∧ ∀ z ∈ kt.sigs, isWord z = true
  g : kt.gates.length ≤ 10 ∧ ∀ z ∈ kt.gates, isWord z = true
  l : kt.labels ≠ [] ∧ kt.labels.length ≤ 10 ∧ (∀ z ∈ kt.labels, isWord z = true) ∧ kt.labels.Nodup
  sl : kt.slots ≠ [] ∧ kt.slots.length ≤ 10 ∧ ∀ z ∈ kt.slots, isWord z = true
  w : kt.words ≠ [] ∧ kt.words.length ≤ 100 ∧ ∀ z ∈ kt.words, isWord z = true
def spStart (K : PySem.W.Frag) : Sp := fun vs H Q _ => ∃ (b c kd : Addr) (kt : Kit) (room : Int) (lab : Str) (a s g i l sl w0 : Addr), vs = [.ref b, .ref kd, .str lab] ∧ GenAt K H b c kd kt room a s g i l sl w0 ∧ kt.Ok ∧ kt.Words ∧
  ∀ (H' : Hp) (t : Addr) (w : Str) (ps : List Str), Kp (C2 b kd) H H' → GenAt K H' b c kd kt room a s g i l sl w0 → H t = none → H' t = some (.tup (.str w :: ps.map V.str)) → ((w = "timer" ∧ ps = [lab]) ∨ (w = "ask" ∧ ∃ a, a ∈ kt.asks ∧ ps = [a, lab])) → Q (.ref t) H'
section
variable {P : Program} {w : World} {K : PySem.W.Frag} {mg : Str → Option Value} {base : Heap}
theorem ok_start_row {f : Addr} {fd : FuncData} (F : FnP K "_law_start_row" "_law_start_row" s__law_start_row f fd) (T : Tx w K mg) (G__law_draw : Def P w K mg base CX0 1 "_law_draw" p__law_draw spDraw) (G__law_one : Def P w K mg base CX0 2 "_law_one" p__law_one (spOne K)) : FnOk P w K mg base CX0 3 f fd p__law_start_row (spStart K) := by
  refine F.ok sc__law_start_row (fun vs H Q E h => ?_) (fun cdv A outer s H vs Q E hr h => ?_)
  · obtain ⟨b, c, kd, kt, room, lab, _, _, _, _, _, _, _, rfl, _⟩ := h
    rfl
  · obtain ⟨b, c, kd, kt, room, lab, a, s', g, i, l, sl, ww, rfl, ga, ok, wok, k⟩ := h
    have hu := hu_of hr
    refine ⟨_, PSs.nox (pss_cons (ps_if (pt_cmpR op_eq (pe_fn G__law_draw (hr.mono (by omega)) (by rfl) pass0 (pa_cons (pv 0) (pa_cons pe_int pa_nil))) pe_int (nomark _)) (pss_one (ps_ret (pe_tup (pa_cons pe_str (pa_cons (pv 2) pa_nil))))) pss_nil)
      (pss_one (ps_ret (pe_tup (pa_cons pe_str (pa_cons (pe_fn G__law_one (hr.mono (by omega)) (by rfl) pass0 (pa_cons (pv 0) (pa_cons (pe_callB (cr_sortedKeys rfl) (by rfl) T.b_sorted (by decide +kernel) (pa_cons (pe_bm0 PySem.F.plainAttrs_dict PySem.F.slot_dict_keys PySem.F.type_dict_keys mt_keysK (pe_dget hu (pv 1) pe_str (fun _ _ => rfl))) pa_nil)) pa_nil))) (pa_cons (pv 2) pa_nil))))))), ?_⟩
    refine ⟨_, rfl, b, c, 3, rfl, ga.bg, by decide, fun d H1 hd hb1 ho1 => ?_⟩
    have ga1 := ga.bs ho1.bs hb1
    refine ⟨rfl, _, rfl, ?_⟩
    refine ite2 (fun e => ?_) (fun e => ?_)
    · refine ⟨_, rfl, by show 2 ≤ sizeLine; decide, fun t nt => ?_⟩
      exact k _ t "timer" [lab] (ho1.bs.k2.trans (Kp.of (Same.new nt))) (ga1.same (Same.new nt)) (by rw [← ho1 t (fun z => (Bg.tr hb1 nt).1 z)]; exact nt) upd_same (.inl ⟨rfl, rfl⟩)
    · refine ⟨_, rfl, _, rfl, kd, _, rfl, kg_asks ga1, ?_⟩
      refine ⟨.inr (.inr (.inl ⟨rfl, .inl ⟨_, ga1.ha⟩⟩)), a, kt.ka, rfl, rfl, ga1.ha, fun p np => ?_⟩
      have S2 : Same H1 (upd H1 p (KeysO p a)) := Same.new np
      have hp : upd H1 p (KeysO p a) p = some (KeysO p a) := upd_same
      generalize upd H1 p (KeysO p a) = H2 at S2 hp ⊢
      have ga2 := ga1.same S2
      refine ⟨p, a, kt.ka, kt.asks, rfl, hp, ga2.ha, ok.a, Nat.lt_of_le_of_lt wok.a.2.1 (by decide), fun ys q pm so nq => ?_⟩
      have S3 : Same H2 (upd H2 q (.lst (ys.map V.str))) := Same.new nq
      have hq : upd H2 q (.lst (ys.map V.str)) q = some (.lst (ys.map V.str)) := upd_same
      generalize upd H2 q (.lst (ys.map V.str)) = H3 at S3 hq ⊢
      have ga3 := ga2.same S3
      have yl := pm.length_eq
      refine ⟨b, c, q, _, rfl, ga3.bg, SqL.of hq, ?_, ?_, fun v H4 hv hb4 ho4 => ?_⟩
      · intro z
        have := congrArg List.length z
        rw [List.length_map, yl, List.length_nil] at this
        exact wok.a.1 (List.eq_nil_of_length_eq_zero this)
      · rw [List.length_map, yl]
        exact Nat.lt_of_le_of_lt wok.a.2.1 (by decide)
      obtain ⟨z, hz, rfl⟩ := List.mem_map.mp hv
      have ga4 := ga3.bs ho4.bs hb4
      refine ⟨_, rfl, by show 3 ≤ sizeLine; decide, fun t nt => ?_⟩
      have k4 : Bs H H4 b := ho1.bs.trans ((Same.bs (S2.trans S3)).trans ho4.bs)
      refine k _ t "ask" [z, lab] (k4.k2.trans (Kp.of (Same.new nt))) (ga4.same (Same.new nt)) ?_ upd_same (.inr ⟨rfl, z, pm.mem_iff.mp hz, rfl⟩)
      exact bs_free k4 hb4 nt
end
end OR

set_option Elab.async false
set_option maxRecDepth 100000
set_option maxHeartbeats 8000000
set_option linter.all false
namespace OR
open PySem PySem.Spec PyProof.Rows L2 TS2
theorem pgw {kt : Kit} {R : Type} {f z : Str} (w : isWord z = true) (h : (f = "ask" ∧ z ∈ kt.asks) ∨ (f = "signal" ∧ z ∈ kt.sigs) ∨ (f = "slot" ∧ z ∈ kt.slots) ∨ (f = "source" ∧ (z ∈ kt.slots ∨ z = "in")) ∨ (f = "label" ∧ z ∈ kt.labels) ∨ (f = "gate" ∧ z ∈ kt.gates) ∨ f = "word") : PG kt f (.word z : Pt R) := by
  rcases h with ⟨rfl, h⟩ | ⟨rfl, h⟩ | ⟨rfl, h⟩ | ⟨rfl, h⟩ | ⟨rfl, h⟩ | ⟨rfl, h⟩ | rfl <;>
  exact ⟨w, (fun e => by first | exact h | exact absurd e (by decide +kernel)), (fun e => by first | exact h | exact absurd e (by decide +kernel)), (fun e => by first | exact h | exact absurd e (by decide +kernel)), (fun e => by first | exact h | exact absurd e (by decide +kernel)), (fun e => by first | exact h | exact absurd e (by decide +kernel)), (fun e => by first | exact h | exact absurd e (by decide +kernel)), by decide +kernel, by decide +kernel, by decide +kernel, by decide +kernel, by decide +kernel⟩
theorem good_leaf {kt : Kit} {d : Nat} {il : Bool} {w : Str} {ps : List (Pt (Row d))} (lo : LocalOk kt il w ps) (hk : kids ps = []) : Good kt (d + 1) il (w, ps) ∧ rsz (d + 1) (w, ps) = 1 := by
  refine ⟨⟨lo, fun z => absurd hk z, fun l hl => ?_⟩, ?_⟩
  · rw [show kids (w, ps).2 = [] from hk] at hl
    cases hl
  · show 1 + ((kids ps).map fun l => (l.map (rsz d)).sum).sum = 1
    rw [hk]
    rfl
theorem kids_words {R : Type} (ps : List Str) : kids (ps.map (Pt.word (R := R))) = [] := by
  unfold kids
  induction ps with
  | nil => rfl
  | cons z ps ih => simpa [kidsP] using ih
/-- a leaf row of these words -/
theorem leaf_words {kt : Kit} {d : Nat} {il : Bool} {w : Str} {ps : List Str} {fs : List Str} (e : fsOf w = fs) (f : (w, fs) ∈ ftab) (n : w ≠ "edit") (l : w = "leave" → il = true) (p : All2 (fun f z => PG kt f (.word z : Pt (Row d))) fs ps) : Good kt (d + 1) il (w, ps.map Pt.word) ∧ rsz (d + 1) (w, ps.map Pt.word) = 1 := by
  refine good_leaf ⟨by rw [e]; exact f, n, ?_, l⟩ (kids_words ps)
  rw [e]
  clear e f
  induction p with
  | nil => exact .nil
  | cons h t ih => exact .cons h ih
theorem areW_of {m : Nat} {ws : List Str} (ne : ws ≠ []) (l : ws.length ≤ m) (a : ∀ z ∈ ws, isWord z = true) (nd : ws.Nodup) : areW (m : Int) ws = true := by
  have p : 0 < ws.length := List.length_pos_iff.mpr ne
  unfold areW
  rw [uniq_all nd, decide_eq_true (by omega), decide_eq_true (by omega), decide_eq_true rfl]
  simp only [Bool.and_self, Bool.true_and, Bool.and_true, List.all_map, List.all_eq_true]
  exact fun z hz => a z hz
def spPlain (K : PySem.W.Frag) (d : Nat) : Sp := fun vs H Q _ => ∃ (b c kd : Addr) (kt : Kit) (room : Int) (pick : Nat) (il : Bool) (a s g i l sl w0 : Addr), vs = [.ref b, .ref kd, .int pick, .bl il] ∧ GenAt K H b c kd kt room a s g i l sl w0 ∧ kt.Ok ∧ kt.Words ∧
  ∀ (H' : Hp) (t : Addr) (r : Row (d + 1)), Kp (C2 b kd) H H' → GenAt K H' b c kd kt room a s g i l sl w0 → RowAt K (res (NL H) H') (d + 1) r (.ref t) → Good kt (d + 1) il r → rsz (d + 1) r = 1 → Q (.ref t) H'
section
variable {P : Program} {w : World} {K : PySem.W.Frag} {mg : Str → Option Value} {base : Heap}
theorem ok_plain_row {d : Nat} {f : Addr} {fd : FuncData} (F : FnP K "_law_plain_row" "_law_plain_row" s__law_plain_row f fd) (T : Tx w K mg) (G__law_draw : Def P w K mg base CX0 1 "_law_draw" p__law_draw spDraw) (G__law_one : Def P w K mg base CX0 2 "_law_one" p__law_one (spOne K)) (G__law_words : Def P w K mg base CX0 2 "_law_words" p__law_words (spWords K))
    (G__law_start_row : Def P w K mg base CX0 3 "_law_start_row" p__law_start_row (spStart K)) : FnOk P w K mg base CX0 4 f fd p__law_plain_row (spPlain K d) := by
  refine F.ok sc__law_plain_row (fun vs H Q E h => ?_) (fun cdv A outer s H vs Q E hr h => ?_)
  · obtain ⟨b, c, kd, kt, room, pick, il, _, _, _, _, _, _, _, rfl, _⟩ := h
    rfl
  · obtain ⟨b, c, kd, kt, room, pick, il, a, s', g, i, l, sl, ww, rfl, ga, ok, wok, k⟩ := h
    have hu := hu_of hr
    refine ⟨_, PSs.nox (pss_cons (ps_set (i := 4) sc__law_plain_row.nd rfl (.inr rfl) (pe_fn G__law_one (hr.mono (by omega)) (by rfl) pass0 (pa_cons (pv 0) (pa_cons (pe_dget hu (pv 1) pe_str (fun _ _ => rfl)) pa_nil))))
      (pss_cons (ps_set (i := 5) sc__law_plain_row.nd rfl (.inl rfl) (pe_fn G__law_one (hr.mono (by omega)) (by rfl) pass0 (pa_cons (pv 0) (pa_cons (pe_dget hu (pv 1) pe_str (fun _ _ => rfl)) pa_nil))))
      (pss_cons (ps_if (pt_cmpR op_eq (pv 2) pe_int (nomark _)) (pss_one (ps_ret (pe_fn G__law_start_row (hr.mono (by omega)) (by rfl) pass0 (pa_cons (pv 0) (pa_cons (pv 1) (pa_cons (pv 4) pa_nil)))))) pss_nil)
      (pss_cons (ps_if (pt_cmpR op_eq (pv 2) pe_int (nomark _)) (pss_cons (ps_setLc (i := 6) (own := [("_law_name", 7)]) (g := (gName 7)) (by rfl) sc__law_plain_row.nd rfl rfl (sw_true rfl rfl rfl (by decide +kernel)) (pi_list (pe_dget hu (pv 1) pe_str (fun _ _ => rfl))) (blkOk_by (N := n__law_plain_row) (sc := defScope s__law_plain_row) (by decide +kernel)) (fun _ _ _ _ _ => (pg_name (i := 7) sc__law_plain_row.nd rfl (.inl rfl))) (fun _ _ _ _ _ => (pts_one (pt_cmpR op_ne (pv 7) (pv 4) (nomark _)))) (fun _ _ _ _ _ => (pv 7)))
      (pss_one (ps_ret (pe_tup (pa_cons pe_str (pa_cons (pe_callTy call_tuple_of (by rfl) T.b_tuple (by decide +kernel) (pa_cons (pe_op op_cat (pe_lst (pa_cons (pv 4) pa_nil)) (pe_slice sl_list (pv 6) po_none (po_some (pe_fn G__law_draw (hr.mono (by omega)) (by rfl) pass0 (pa_cons (pv 0) (pa_cons pe_int pa_nil)))))) pa_nil)) (pa_cons (pv 5) pa_nil))))))) pss_nil)
      (pss_cons (ps_if (PW.pt (pw_or (pt_cmpR op_eq (pv 2) pe_int (nomark _)) (pw_or1 (pt_cmpR op_eq (pv 2) pe_int (nomark _))))) (pss_one (ps_ret (pe_ix ix_list (pe_lst (pa_cons (pe_tup (pa_cons pe_str (pa_cons (pv 4) (pa_cons (pv 5) pa_nil)))) (pa_cons (pe_tup (pa_cons pe_str (pa_cons (pv 4) pa_nil))) pa_nil))) (pe_op op_sub (pv 2) pe_int) (fun _ _ => rfl)))) pss_nil)
      (pss_cons (ps_if (PW.pt (pw_and (pt_cmpR op_eq (pv 2) pe_int (nomark _)) (pw_and1 (pt_cmpR op_gt (pe_callB call_lenD (by rfl) T.b_len PySem.boot_len (pa_cons (pe_dget hu (pv 1) pe_str (fun _ _ => rfl)) pa_nil)) pe_int (nomark _))))) (pss_one (ps_ret (pe_tup (pa_cons pe_str (pa_cons (pe_fn G__law_one (hr.mono (by omega)) (by rfl) pass0 (pa_cons (pv 0) (pa_cons (pe_callB (cr_sortedKeys rfl) (by rfl) T.b_sorted (by decide +kernel) (pa_cons (pe_bm0 PySem.F.plainAttrs_dict PySem.F.slot_dict_keys PySem.F.type_dict_keys mt_keysK (pe_dget hu (pv 1) pe_str (fun _ _ => rfl))) pa_nil)) pa_nil))) (pa_cons (pv 5) pa_nil)))))) pss_nil)
      (pss_cons (ps_if (pt_cmpR op_eq (pv 2) pe_int (nomark _)) (pss_one (ps_ret (pe_tup (pa_cons pe_str (pa_cons (pv 5) (pa_cons (pe_callTy call_tuple_of (by rfl) T.b_tuple (by decide +kernel) (pa_cons (pe_fn G__law_words (hr.mono (by omega)) (by rfl) pass0 (pa_cons (pv 0) (pa_cons (pe_op op_add pe_int (pe_fn G__law_draw (hr.mono (by omega)) (by rfl) pass0 (pa_cons (pv 0) (pa_cons pe_int pa_nil)))) (pa_cons pe_int (pa_cons (pe_lst pa_nil) pa_nil))))) pa_nil)) pa_nil)))))) pss_nil)
      (pss_cons (ps_if (PW.pt (pw_and (pt_cmpR op_eq (pv 2) pe_int (nomark _)) (pw_and1 (pt_val (pv 3))))) (pss_one (ps_ret (pe_tup (pa_cons pe_str pa_nil)))) pss_nil)
      (pss_cons (ps_if (pt_cmpR op_eq (pv 2) pe_int (nomark _)) (pss_one (ps_ret (pe_tup (pa_cons (pe_fn G__law_one (hr.mono (by omega)) (by rfl) pass0 (pa_cons (pv 0) (pa_cons (pe_lst (pa_cons pe_str (pa_cons pe_str pa_nil))) pa_nil))) (pa_cons (pe_fn G__law_one (hr.mono (by omega)) (by rfl) pass0 (pa_cons (pv 0) (pa_cons (pe_op op_cat (pe_dget hu (pv 1) pe_str (fun _ _ => rfl)) (pe_lst (pa_cons pe_str pa_nil))) pa_nil))) pa_nil))))) pss_nil)
      (pss_one (ps_ret (pe_tup (pa_cons pe_str (pa_cons (pv 5) (pa_cons (pe_fn G__law_one (hr.mono (by omega)) (by rfl) pass0 (pa_cons (pv 0) (pa_cons (pe_dget hu (pv 1) pe_str (fun _ _ => rfl)) pa_nil))) pa_nil))))))))))))))), ?_⟩
    have listNe : ∀ {zs : List Str}, zs ≠ [] → zs.map V.str ≠ [] := fun h z => h (List.map_eq_nil_iff.mp z)
    have few : ∀ {zs : List Str} {n : Nat}, zs.length ≤ n → n ≤ 100 → (zs.map V.str).length < 1000000 := fun h h2 => by rw [List.length_map]; omega
    refine ⟨_, rfl, _, rfl, kd, _, rfl, kg_labels ga, b, c, l, _, rfl, ga.bg, SqL.of ga.hl, listNe wok.l.1, few wok.l.2.1 (by decide), fun v H1 hv hb1 ho1 => ?_⟩
    obtain ⟨lab, hlab, rfl⟩ := List.mem_map.mp hv
    have ga1 := ga.bs ho1.bs hb1
    refine ⟨_, rfl, _, rfl, kd, _, rfl, kg_slots ga1, b, c, sl, _, rfl, ga1.bg, SqL.of ga1.hsl, listNe wok.sl.1, few wok.sl.2.1 (by decide), fun v H2 hv hb2 ho2 => ?_⟩
    obtain ⟨slot, hslot, rfl⟩ := List.mem_map.mp hv
    have ga2 := ga1.bs ho2.bs hb2
    have k2 : Bs H H2 b := ho1.bs.trans ho2.bs
    have wl := wok.l.2.2.1 lab hlab
    have ws := wok.sl.2.2 slot hslot
    -- a row of words, made here
    have give : ∀ {H3 H4 : Hp} {t : Addr} {w : Str} {ps : List Str} {fs : List Str}, Bs H H3 b → GenAt K H3 b c kd kt room a s' g i l sl ww → H3 t = none → H4 = upd H3 t (.tup (.str w :: ps.map V.str)) → fsOf w = fs → (w, fs) ∈ ftab → w ≠ "edit" → (w = "leave" → il = true) → All2 (fun f z => PG kt f (.word z : Pt (Row d))) fs ps → Q (.ref t) H4 := by
      intro H3 H4 t w ps fs k3 ga3 nt e4 e f n lv p
      subst e4
      obtain ⟨gd, rz⟩ := leaf_words (il := il) e f n lv p
      exact k _ t _ (k3.k2.trans (Kp.of (Same.new nt))) (ga3.same (Same.new nt)) (row_words (bs_free k3 ga3.bg nt) upd_same) gd rz
    -- a row of words that stands
    have give2 : ∀ {H4 : Hp} {t : Addr} {w : Str} {ps : List Str} {fs : List Str}, Bs H H4 b → GenAt K H4 b c kd kt room a s' g i l sl ww → H t = none → H4 t = some (.tup (.str w :: ps.map V.str)) → fsOf w = fs → (w, fs) ∈ ftab → w ≠ "edit" → (w = "leave" → il = true) → All2 (fun f z => PG kt f (.word z : Pt (Row d))) fs ps → Q (.ref t) H4 := by
      intro H4 t w ps fs k3 ga4 nt e4 e f n lv p
      obtain ⟨gd, rz⟩ := leaf_words (il := il) e f n lv p
      exact k _ t _ k3.k2 (ga4) (row_words nt e4) gd rz
    refine ⟨_, rfl, rfl, _, rfl, ?_⟩
    refine ite2 (fun e => ?_) (fun e => ?_)
    · refine ⟨_, rfl, _, rfl, _, rfl, b, c, kd, kt, room, lab, _, _, _, _, _, _, _, rfl, ga2, ok, wok, fun H3 t w ps k3 ga3 nt ht sh => ?_⟩
      rcases sh with ⟨rfl, rfl⟩ | ⟨rfl, a2, ha2, rfl⟩
      · obtain ⟨gd, rz⟩ := leaf_words (kt := kt) (d := d) (il := il) (w := "timer") (ps := [lab]) (fs := ["label"]) (by decide +kernel) (by decide +kernel) (by decide +kernel) (fun z => absurd z (by decide +kernel)) (.cons (pgw wl (.inr (.inr (.inr (.inr (.inl ⟨rfl, hlab⟩)))))) .nil)
        exact k _ t _ (k2.k2.trans k3) ga3 (row_words (bs_free k2 hb2 nt) ht) gd rz
      · obtain ⟨gd, rz⟩ := leaf_words (kt := kt) (d := d) (il := il) (w := "ask") (ps := [a2, lab]) (fs := ["ask", "label"]) (by decide +kernel) (by decide +kernel) (by decide +kernel) (fun z => absurd z (by decide +kernel)) (.cons (pgw (wok.a.2.2 _ ha2) (.inl ⟨rfl, ha2⟩)) (.cons (pgw wl (.inr (.inr (.inr (.inr (.inl ⟨rfl, hlab⟩)))))) .nil))
        exact k _ t _ (k2.k2.trans k3) ga3 (row_words (bs_free k2 hb2 nt) ht) gd rz
    refine ⟨_, rfl, rfl, _, rfl, ?_⟩
    refine ite2 (fun e => ?_) (fun e => ?_)
    · refine ⟨_, rfl, kd, _, rfl, kg_labels ga2, l, rfl, ⟨_, SqL.of ga2.hl⟩, fun D nD => ?_⟩
      have lD : l ≠ D := ne_of_none ga2.hl nD
      have keep : ∀ {H' : Hp}, Kp (· = D) (upd H2 D (.lst [])) H' → Same H2 H' := fun k b o e => k b o (by rw [upd_ne (ne_of_none e nD)]; exact e) (ne_of_none e nD)
      refine lc_it (walk_list (K := K) (a := l) (xs := kt.labels.map V.str)) (fun i H' => Kp (· = D) (upd H2 D (.lst [])) H' ∧ H' D = some (.lst (((kt.labels.take i).filter fun z : Str => decide (z ≠ lab)).map V.str))) ⟨Kp.refl _, upd_same⟩
        (fun i H' _ q => SqL.of (keep q.1 _ _ ga2.hl)) (fun i x H8 H9 hi q y => ?_) (fun H8 q => ?_)
      · obtain ⟨rfl, hx⟩ := y
        obtain ⟨kq, hD⟩ := q
        rw [List.getElem?_map] at hx
        cases ez : kt.labels[i]? with
        | none => rw [ez] at hx; cases hx
        | some z =>
          rw [ez] at hx
          cases Option.some.inj hx
          refine ⟨rfl, ?_⟩
          refine ⟨_, rfl, _, rfl, rfl, ?_⟩
          have ee : (!decide (V.str z = V.str lab)) = decide (z ≠ lab) := by by_cases q : z = lab <;> simp [q]
          rw [ee]
          by_cases cz : z = lab
          · refine ⟨_, rfl, ?_⟩
            refine iteF' (by simp [cz]) ?_
            refine ⟨kq, ?_⟩
            rw [hD, take_more ez, List.filter_append, List.filter_cons_of_neg (by simp [cz])]
            simp
          · refine ⟨_, rfl, ?_⟩
            refine iteT' (by simp [cz]) ?_
            refine ⟨_, rfl, _, hD, ?_, fun u o e n => ?_, ?_⟩
            · rw [List.length_map]
              have h1 := List.length_filter_le (fun z : Str => decide (z ≠ lab)) (kt.labels.take i)
              rw [List.length_take] at h1
              have := wok.l.2.1
              rw [sizeLine_eq]
              omega
            · rw [upd_ne n]
              exact kq u o e n
            · rw [upd_same, take_more ez, List.filter_append, List.filter_cons_of_pos (by simp [cz])]
              simp
      · obtain ⟨kq, hD⟩ := q
        rw [List.length_map, List.take_length] at hD
        have S8 := keep kq
        generalize eo : (kt.labels.filter fun z : Str => decide (z ≠ lab)) = oth at hD
        have ga8 := ga2.same S8
        refine ⟨_, rfl, by show 1 ≤ sizeLine; decide, fun q1 n1 => ?_⟩
        have S9 : Same H8 (upd H8 q1 (.lst [.str lab])) := Same.new n1
        have hq1 : upd H8 q1 (.lst [.str lab]) q1 = some (.lst [.str lab]) := upd_same
        generalize upd H8 q1 (.lst [.str lab]) = H9 at S9 hq1 ⊢
        have ga9 := ga8.same S9
        refine ⟨_, rfl, _, rfl, b, c, 3, rfl, ga9.bg, by decide, fun n H10 hn hb10 ho10 => ?_⟩
        have ga10 := ga9.bs ho10.bs hb10
        have bne : ∀ {x : Addr} {xs : List V}, H9 x = some (.lst xs) → H10 x = some (.lst xs) := fun h => by
          obtain ⟨kvs, hk⟩ := ga9.bg.dk
          exact ho10.bs _ _ h (ne_of h hk (by intro z; cases z))
        have hD10 := bne (S9 _ _ hD)
        have hq10 := bne hq1
        refine ⟨_, rfl, D, _, rfl, SqL.of hD10, fun q2 n2 => ?_⟩
        have S11 : Same H10 (upd H10 q2 (.lst (cutV (oth.map V.str) none (some (n : Int))))) := Same.new n2
        have hq2 : upd H10 q2 (.lst (cutV (oth.map V.str) none (some (n : Int)))) q2 = some (.lst (cutV (oth.map V.str) none (some (n : Int)))) := upd_same
        have ec : cutV (oth.map V.str) none (some (n : Int)) = (oth.take n).map V.str := by
          unfold cutV
          have e1 : HT.sIx (oth.map V.str).length 0 none = 0 := rfl
          have e2 : HT.sIx (oth.map V.str).length (oth.map V.str).length (some (n : Int)) = min n oth.length := by
            unfold HT.sIx
            dsimp only
            rw [if_neg (by omega), List.length_map, Int.toNat_natCast]
          rw [e1, e2, List.drop_zero, Nat.sub_zero, ← List.map_take]
          congr 1
          rcases Nat.le_total n oth.length with h | h
          · rw [Nat.min_eq_left h]
          · rw [Nat.min_eq_right h, List.take_length, List.take_of_length_le h]
        rw [ec] at S11 hq2 ⊢
        generalize upd H10 q2 (.lst ((oth.take n).map V.str)) = H11 at S11 hq2 ⊢
        have hq11 := S11 _ _ hq10
        have lt3 : (oth.take n).length ≤ 2 := by rw [List.length_take]; omega
        refine ⟨q1, q2, [.str lab], (oth.take n).map V.str, rfl, rfl, hq11, hq2, ?_, fun q3 n3 => ?_⟩
        · rw [List.length_map, sizeLine_eq]
          show 1 + _ ≤ _
          omega
        have S12 : Same H11 (upd H11 q3 (.lst ([.str lab] ++ (oth.take n).map V.str))) := Same.new n3
        have hq3 : upd H11 q3 (.lst ([.str lab] ++ (oth.take n).map V.str)) q3 = some (.lst ((lab :: oth.take n).map V.str)) := upd_same
        generalize upd H11 q3 (.lst ([.str lab] ++ (oth.take n).map V.str)) = H12 at S12 hq3 ⊢
        refine ⟨q3, _, rfl, .inl ⟨SqL.of hq3, fun q4 n4 => ?_⟩⟩
        have S13 : Same H12 (upd H12 q4 (.tup ((lab :: oth.take n).map V.str))) := Same.new n4
        have hq4 : upd H12 q4 (.tup ((lab :: oth.take n).map V.str)) q4 = some (.tup ((lab :: oth.take n).map V.str)) := upd_same
        generalize upd H12 q4 (.tup ((lab :: oth.take n).map V.str)) = H13 at S13 hq4 ⊢
        refine ⟨_, rfl, by show 3 ≤ sizeLine; decide, fun t nt => ?_⟩
        have S1013 : Same H10 H13 := S11.trans (S12.trans S13)
        have ga13 := ga10.same S1013
        have k13 : Bs H H13 b := k2.trans ((Same.bs (S8.trans S9)).trans (ho10.bs.trans (Same.bs S1013)))
        have sub : ∀ z ∈ oth, z ∈ kt.labels ∧ z ≠ lab := fun z hz => by
          rw [← eo] at hz
          obtain ⟨a, b⟩ := List.mem_filter.mp hz
          exact ⟨a, of_decide_eq_true b⟩
        have nd : (lab :: oth.take n).Nodup := by
          refine List.nodup_cons.mpr ⟨fun h => (sub _ (List.mem_of_mem_take h)).2 rfl, ?_⟩
          refine List.Nodup.sublist (List.take_sublist _ _) ?_
          rw [← eo]
          exact wok.l.2.2.2.filter _
        have all : ∀ z ∈ lab :: oth.take n, z ∈ kt.labels := fun z hz => by
          rcases List.mem_cons.mp hz with rfl | hz
          · exact hlab
          · exact (sub z (List.mem_of_mem_take hz)).1
        have lo : LocalOk kt il "first" ([.words (lab :: oth.take n), .word slot] : List (Pt (Row d))) := by
          refine ⟨by decide +kernel, by decide +kernel, ?_, fun z => absurd z (by decide +kernel)⟩
          rw [show fsOf "first" = (["labels", "slot"] : List Str) by decide +kernel]
          refine .cons ⟨.inl rfl, ?_, fun _ => all⟩ (.cons (pgw ws (.inr (.inr (.inl ⟨rfl, hslot⟩)))) .nil)
          exact areW_of (m := 3) (by simp) (by rw [List.length_cons]; omega) (fun z hz => wok.l.2.2.1 z (all z hz)) nd
        obtain ⟨gd, rz⟩ := good_leaf lo rfl
        have ht0 : H t = none := bs_free k13 ga13.bg nt
        have nq4 : H q4 = none := bs_free (k2.trans ((Same.bs (S8.trans S9)).trans (ho10.bs.trans (Same.bs (S11.trans S12))))) (ga10.same (S11.trans S12)).bg n4
        refine k _ t ("first", [.words (lab :: oth.take n), .word slot]) (k13.k2.trans (Kp.of (Same.new nt))) (ga13.same (Same.new nt)) ⟨t, _, rfl, SqT.of (by rw [res_of (S := NL H) (NL.new ht0)]; exact upd_same), .cons ⟨q4, rfl, SqT.of (by rw [res_of (S := NL H) (NL.new nq4)]; exact Same.new nt _ _ hq4)⟩ (.cons rfl .nil)⟩ gd rz
    -- 6, 7
    have pl : PG kt "label" (.word lab : Pt (Row d)) := pgw wl (.inr (.inr (.inr (.inr (.inl ⟨rfl, hlab⟩)))))
    have psl : PG kt "slot" (.word slot : Pt (Row d)) := pgw ws (.inr (.inr (.inl ⟨rfl, hslot⟩)))
    refine ⟨_, rfl, rfl, _, rfl, ?_⟩
    by_cases p6 : pick = 6
    · refine iteT' (decide_eq_true (by rw [p6]; rfl)) ?_
      refine iteT ?_
      subst p6
      refine ⟨_, rfl, _, rfl, by show 3 ≤ sizeLine; decide, fun t1 n1 => ?_⟩
      have S3 : Same H2 (upd H2 t1 (.tup [.str "await", .str lab, .str slot])) := Same.new n1
      have h1 : upd H2 t1 (.tup [.str "await", .str lab, .str slot]) t1 = some (.tup [.str "await", .str lab, .str slot]) := upd_same
      generalize upd H2 t1 (.tup [.str "await", .str lab, .str slot]) = H3 at S3 h1 ⊢
      refine ⟨_, rfl, by show 2 ≤ sizeLine; decide, fun t2 n2 => ?_⟩
      have S4 : Same H3 (upd H3 t2 (.tup [.str "drop", .str lab])) := Same.new n2
      generalize upd H3 t2 (.tup [.str "drop", .str lab]) = H4 at S4 ⊢
      refine ⟨by show 2 ≤ sizeLine; decide, fun q nq => ?_⟩
      have S5 : Same H4 (upd H4 q (.lst [.ref t1, .ref t2])) := Same.new nq
      have hq : upd H4 q (.lst [.ref t1, .ref t2]) q = some (.lst [.ref t1, .ref t2]) := upd_same
      generalize upd H4 q (.lst [.ref t1, .ref t2]) = H5 at S5 hq ⊢
      refine ⟨_, rfl, _, _, rfl, rfl, q, _, _, .ref t1, rfl, rfl, SqL.of hq, by rfl, ?_⟩
      exact give2 (w := "await") (ps := [lab, slot]) (fs := ["label", "slot"]) (k2.trans (Same.bs (S3.trans (S4.trans S5)))) (ga2.same (S3.trans (S4.trans S5))) (bs_free k2 hb2 n1) (S5 _ _ (S4 _ _ h1)) (by decide +kernel) (by decide +kernel) (by decide +kernel) (fun z => absurd z (by decide +kernel)) (.cons pl (.cons psl .nil))
    refine iteF' (decide_eq_false (fun z => p6 (by have := V.int.inj z; omega))) ?_
    refine ⟨_, rfl, rfl, _, rfl, ?_⟩
    by_cases p7 : pick = 7
    · refine iteT' (decide_eq_true (by rw [p7]; rfl)) ?_
      subst p7
      refine ⟨_, rfl, _, rfl, by show 3 ≤ sizeLine; decide, fun t1 n1 => ?_⟩
      have S3 : Same H2 (upd H2 t1 (.tup [.str "await", .str lab, .str slot])) := Same.new n1
      generalize upd H2 t1 (.tup [.str "await", .str lab, .str slot]) = H3 at S3 ⊢
      refine ⟨_, rfl, by show 2 ≤ sizeLine; decide, fun t2 n2 => ?_⟩
      have S4 : Same H3 (upd H3 t2 (.tup [.str "drop", .str lab])) := Same.new n2
      have h2 : upd H3 t2 (.tup [.str "drop", .str lab]) t2 = some (.tup [.str "drop", .str lab]) := upd_same
      generalize upd H3 t2 (.tup [.str "drop", .str lab]) = H4 at S4 h2 ⊢
      refine ⟨by show 2 ≤ sizeLine; decide, fun q nq => ?_⟩
      have S5 : Same H4 (upd H4 q (.lst [.ref t1, .ref t2])) := Same.new nq
      have hq : upd H4 q (.lst [.ref t1, .ref t2]) q = some (.lst [.ref t1, .ref t2]) := upd_same
      generalize upd H4 q (.lst [.ref t1, .ref t2]) = H5 at S5 hq ⊢
      refine ⟨_, rfl, _, _, rfl, rfl, q, _, _, .ref t2, rfl, rfl, SqL.of hq, by rfl, ?_⟩
      exact give2 (w := "drop") (ps := [lab]) (fs := ["label"]) (k2.trans (Same.bs (S3.trans (S4.trans S5)))) (ga2.same (S3.trans (S4.trans S5))) (bs_free (k2.trans (Same.bs S3)) (hb2.same S3) n2) (S5 _ _ h2) (by decide +kernel) (by decide +kernel) (by decide +kernel) (fun z => absurd z (by decide +kernel)) (.cons pl .nil)
    refine iteF' (decide_eq_false (fun z => p7 (by have := V.int.inj z; omega))) ?_
    -- 8
    refine ⟨_, rfl, rfl, _, rfl, ?_⟩
    have lks : kt.ks.length = kt.sigs.length := by have := congrArg List.length ok.s; simpa using this
    by_cases p8 : pick = 8
    · refine iteT' (decide_eq_true (by rw [p8]; rfl)) ?_
      refine ⟨_, rfl, kd, _, rfl, kg_signals ga2, s', kt.ks, rfl, ga2.hs, _, _, rfl, rfl, _, rfl, ?_⟩
      by_cases sg : kt.sigs = []
      · refine iteF' (decide_eq_false (by rw [lks, sg]; decide)) ?_
        refine ⟨_, rfl, rfl, _, rfl, ?_⟩
        by_cases p9 : pick = 9
        · refine iteT' (decide_eq_true (by rw [p9]; rfl)) ?_
          refine ⟨_, rfl, _, rfl, _, rfl, b, c, 3, rfl, hb2, (by decide), fun n H3 hn hb3 ho3 => ⟨_, _, rfl, rfl, ?_⟩⟩
          have ga3 := ga2.bs ho3.bs hb3
          refine ⟨(by show 0 ≤ sizeLine; decide), fun q nq => ?_⟩
          have S4 : Same H3 (upd H3 q (.lst [])) := Same.new nq
          have hq : upd H3 q (.lst []) q = some (.lst []) := upd_same
          generalize upd H3 q (.lst []) = H4 at S4 hq ⊢
          have ga4 := ga3.same S4
          refine ⟨b, c, q, 1 + n, 1, [], (by rw [show ((1 + n : Nat) : Int) = 1 + (n : Int) by omega]; rfl), ga4.bg, (by decide), (by decide), (by omega), (by simp), SqL.of hq, fun zs p H5 zl zok hb5 bs5 np hp => ?_⟩
          have ga5 := ga4.bs bs5 hb5
          refine ⟨p, _, rfl, .inl ⟨SqL.of hp, fun q4 n4 => ?_⟩⟩
          have S6 : Same H5 (upd H5 q4 (.tup (zs.map V.str))) := Same.new n4
          have hq4 : upd H5 q4 (.tup (zs.map V.str)) q4 = some (.tup (zs.map V.str)) := upd_same
          generalize upd H5 q4 (.tup (zs.map V.str)) = H6 at S6 hq4 ⊢
          have ga6 := ga5.same S6
          refine ⟨(by show 3 ≤ sizeLine; decide), fun t nt => ?_⟩
          have k5 : Bs H H5 b := k2.trans (ho3.bs.trans ((Same.bs S4).trans bs5))
          have k6 : Bs H H6 b := k5.trans (Same.bs S6)
          have lo : LocalOk kt il "note" ([.word slot, .words zs] : List (Pt (Row d))) := by
            refine ⟨by decide +kernel, by decide +kernel, ?_, fun z => absurd z (by decide +kernel)⟩
            rw [show fsOf "note" = (["slot", "words"] : List Str) by decide +kernel]
            refine .cons psl (.cons ⟨.inr rfl, ?_, fun z => absurd z (by decide +kernel)⟩ .nil)
            exact areW_of (m := 3) (fun z => by rw [z] at zl; simp at zl; omega) (by omega) zok.w zok.n
          obtain ⟨gd, rz⟩ := good_leaf lo rfl
          have ht0 : H t = none := bs_free k6 ga6.bg nt
          have nq4 : H q4 = none := bs_free k5 hb5 n4
          exact k _ t ("note", [.word slot, .words zs]) (k6.k2.trans (Kp.of (Same.new nt))) (ga6.same (Same.new nt)) ⟨t, _, rfl, SqT.of (by rw [res_of (S := NL H) (NL.new ht0)]; exact upd_same), .cons rfl (.cons ⟨q4, rfl, SqT.of (by rw [res_of (S := NL H) (NL.new nq4)]; exact Same.new nt _ _ hq4)⟩ .nil)⟩ gd rz
        · refine iteF' (decide_eq_false (fun z => p9 (by have := V.int.inj z; omega))) ?_
          refine ⟨_, rfl, rfl, _, rfl, ?_⟩
          by_cases p15 : pick = 15
          · refine iteT' (decide_eq_true (by rw [p15]; rfl)) ?_
            cases il with
            | true =>
              refine ⟨_, rfl, ?_⟩
              refine ⟨_, rfl, ?_⟩
              refine iteT ?_
              refine ⟨(by show 1 ≤ sizeLine; decide), fun t nt => ?_⟩
              exact give (w := "leave") (ps := []) (fs := []) k2 ga2 nt rfl (by decide +kernel) (by decide +kernel) (by decide +kernel) (fun _ => rfl) .nil
            | false =>
              refine ⟨_, rfl, ?_⟩
              refine ⟨_, rfl, ?_⟩
              refine iteF ?_
              refine ⟨_, rfl, rfl, _, rfl, ?_⟩
              by_cases p15 : pick = 15
              · refine iteT' (decide_eq_true (by rw [p15]; rfl)) ?_
                refine ⟨_, rfl, (by show 2 ≤ sizeLine; decide), fun q nq => ?_⟩
                have S3 : Same H2 (upd H2 q (.lst [.str "end", .str "anew"])) := Same.new nq
                have hq : upd H2 q (.lst [.str "end", .str "anew"]) q = some (.lst [.str "end", .str "anew"]) := upd_same
                generalize upd H2 q (.lst [.str "end", .str "anew"]) = H3 at S3 hq ⊢
                have ga3 := ga2.same S3
                refine ⟨b, c, q, _, rfl, ga3.bg, SqL.of hq, (by simp), (by show 2 < 1000000; decide), fun v H4 hv hb4 ho4 => ?_⟩
                have ga4 := ga3.bs ho4.bs hb4
                refine ⟨_, rfl, _, rfl, kd, _, rfl, kg_slots ga4, (by show 1 ≤ sizeLine; decide), fun q2 n2 => ?_⟩
                have S5 : Same H4 (upd H4 q2 (.lst [.str "in"])) := Same.new n2
                have hq2 : upd H4 q2 (.lst [.str "in"]) q2 = some (.lst [.str "in"]) := upd_same
                generalize upd H4 q2 (.lst [.str "in"]) = H5 at S5 hq2 ⊢
                have ga5 := ga4.same S5
                refine ⟨sl, q2, kt.slots.map V.str, [.str "in"], rfl, rfl, ga5.hsl, hq2, ?_, fun q3 n3 => ?_⟩
                · rw [List.length_map, sizeLine_eq]
                  have := wok.sl.2.1
                  show _ + 1 ≤ _
                  omega
                have S6 : Same H5 (upd H5 q3 (.lst (kt.slots.map V.str ++ [.str "in"]))) := Same.new n3
                have hq3 : upd H5 q3 (.lst (kt.slots.map V.str ++ [.str "in"])) q3 = some (.lst ((kt.slots ++ (["in"] : List Str)).map V.str)) := by
                  rw [upd_same, List.map_append]
                  rfl
                generalize upd H5 q3 (.lst (kt.slots.map V.str ++ [.str "in"])) = H6 at S6 hq3 ⊢
                have ga6 := ga5.same S6
                refine ⟨b, c, q3, _, rfl, ga6.bg, SqL.of hq3, listNe (by simp), few (n := 11) (by have := wok.sl.2.1; rw [List.length_append]; show _ + 1 ≤ _; omega) (by decide), fun v2 H7 hv2 hb7 ho7 => ?_⟩
                obtain ⟨z, hz, rfl⟩ := List.mem_map.mp hv2
                have ga7 := ga6.bs ho7.bs hb7
                refine ⟨(by show 2 ≤ sizeLine; decide), fun t nt => ?_⟩
                have hzz : PG kt "source" (.word z : Pt (Row d)) := by
                  rcases List.mem_append.mp hz with h | h
                  · exact pgw (wok.sl.2.2 _ h) (.inr (.inr (.inr (.inl ⟨rfl, .inl h⟩))))
                  · rw [List.mem_singleton.mp h]; exact pgw (by decide +kernel) (.inr (.inr (.inr (.inl ⟨rfl, .inr rfl⟩))))
                have k7 : Bs H H7 b := k2.trans ((Same.bs S3).trans (ho4.bs.trans ((Same.bs (S5.trans S6)).trans ho7.bs)))
                have wv : v = .str "end" ∨ v = .str "anew" := by simpa using hv
                rcases wv with rfl | rfl
                · exact give (w := "end") (ps := [z]) (fs := ["source"]) k7 ga7 nt rfl (by decide +kernel) (by decide +kernel) (by decide +kernel) (fun z => absurd z (by decide +kernel)) (.cons hzz .nil)
                · exact give (w := "anew") (ps := [z]) (fs := ["source"]) k7 ga7 nt rfl (by decide +kernel) (by decide +kernel) (by decide +kernel) (fun z => absurd z (by decide +kernel)) (.cons hzz .nil)
              · refine iteF' (decide_eq_false (fun z => p15 (by have := V.int.inj z; omega))) ?_
                refine ⟨_, rfl, _, rfl, _, rfl, kd, _, rfl, kg_words ga2, b, c, ww, _, rfl, ga2.bg, SqL.of ga2.hw, listNe wok.w.1, few wok.w.2.1 (by decide), fun v H3 hv hb3 ho3 => ?_⟩
                obtain ⟨z, hz, rfl⟩ := List.mem_map.mp hv
                have ga3 := ga2.bs ho3.bs hb3
                refine ⟨(by show 3 ≤ sizeLine; decide), fun t nt => ?_⟩
                exact give (w := "put") (ps := [slot, z]) (fs := ["slot", "word"]) (k2.trans ho3.bs) ga3 nt rfl (by decide +kernel) (by decide +kernel) (by decide +kernel) (fun z => absurd z (by decide +kernel)) (.cons psl (.cons (pgw (wok.w.2.2 _ hz) (.inr (.inr (.inr (.inr (.inr (.inr rfl))))))) .nil))
          · refine iteF' (decide_eq_false (fun z => p15 (by have := V.int.inj z; omega))) ?_
            refine iteF ?_
            refine ⟨_, rfl, rfl, _, rfl, ?_⟩
            by_cases p15 : pick = 15
            · refine iteT' (decide_eq_true (by rw [p15]; rfl)) ?_
              refine ⟨_, rfl, (by show 2 ≤ sizeLine; decide), fun q nq => ?_⟩
              have S3 : Same H2 (upd H2 q (.lst [.str "end", .str "anew"])) := Same.new nq
              have hq : upd H2 q (.lst [.str "end", .str "anew"]) q = some (.lst [.str "end", .str "anew"]) := upd_same
              generalize upd H2 q (.lst [.str "end", .str "anew"]) = H3 at S3 hq ⊢
              have ga3 := ga2.same S3
              refine ⟨b, c, q, _, rfl, ga3.bg, SqL.of hq, (by simp), (by show 2 < 1000000; decide), fun v H4 hv hb4 ho4 => ?_⟩
              have ga4 := ga3.bs ho4.bs hb4
              refine ⟨_, rfl, _, rfl, kd, _, rfl, kg_slots ga4, (by show 1 ≤ sizeLine; decide), fun q2 n2 => ?_⟩
              have S5 : Same H4 (upd H4 q2 (.lst [.str "in"])) := Same.new n2
              have hq2 : upd H4 q2 (.lst [.str "in"]) q2 = some (.lst [.str "in"]) := upd_same
              generalize upd H4 q2 (.lst [.str "in"]) = H5 at S5 hq2 ⊢
              have ga5 := ga4.same S5
              refine ⟨sl, q2, kt.slots.map V.str, [.str "in"], rfl, rfl, ga5.hsl, hq2, ?_, fun q3 n3 => ?_⟩
              · rw [List.length_map, sizeLine_eq]
                have := wok.sl.2.1
                show _ + 1 ≤ _
                omega
              have S6 : Same H5 (upd H5 q3 (.lst (kt.slots.map V.str ++ [.str "in"]))) := Same.new n3
              have hq3 : upd H5 q3 (.lst (kt.slots.map V.str ++ [.str "in"])) q3 = some (.lst ((kt.slots ++ (["in"] : List Str)).map V.str)) := by
                rw [upd_same, List.map_append]
                rfl
              generalize upd H5 q3 (.lst (kt.slots.map V.str ++ [.str "in"])) = H6 at S6 hq3 ⊢
              have ga6 := ga5.same S6
              refine ⟨b, c, q3, _, rfl, ga6.bg, SqL.of hq3, listNe (by simp), few (n := 11) (by have := wok.sl.2.1; rw [List.length_append]; show _ + 1 ≤ _; omega) (by decide), fun v2 H7 hv2 hb7 ho7 => ?_⟩
              obtain ⟨z, hz, rfl⟩ := List.mem_map.mp hv2
              have ga7 := ga6.bs ho7.bs hb7
              refine ⟨(by show 2 ≤ sizeLine; decide), fun t nt => ?_⟩
              have hzz : PG kt "source" (.word z : Pt (Row d)) := by
                rcases List.mem_append.mp hz with h | h
                · exact pgw (wok.sl.2.2 _ h) (.inr (.inr (.inr (.inl ⟨rfl, .inl h⟩))))
                · rw [List.mem_singleton.mp h]; exact pgw (by decide +kernel) (.inr (.inr (.inr (.inl ⟨rfl, .inr rfl⟩))))
              have k7 : Bs H H7 b := k2.trans ((Same.bs S3).trans (ho4.bs.trans ((Same.bs (S5.trans S6)).trans ho7.bs)))
              have wv : v = .str "end" ∨ v = .str "anew" := by simpa using hv
              rcases wv with rfl | rfl
              · exact give (w := "end") (ps := [z]) (fs := ["source"]) k7 ga7 nt rfl (by decide +kernel) (by decide +kernel) (by decide +kernel) (fun z => absurd z (by decide +kernel)) (.cons hzz .nil)
              · exact give (w := "anew") (ps := [z]) (fs := ["source"]) k7 ga7 nt rfl (by decide +kernel) (by decide +kernel) (by decide +kernel) (fun z => absurd z (by decide +kernel)) (.cons hzz .nil)
            · refine iteF' (decide_eq_false (fun z => p15 (by have := V.int.inj z; omega))) ?_
              refine ⟨_, rfl, _, rfl, _, rfl, kd, _, rfl, kg_words ga2, b, c, ww, _, rfl, ga2.bg, SqL.of ga2.hw, listNe wok.w.1, few wok.w.2.1 (by decide), fun v H3 hv hb3 ho3 => ?_⟩
              obtain ⟨z, hz, rfl⟩ := List.mem_map.mp hv
              have ga3 := ga2.bs ho3.bs hb3
              refine ⟨(by show 3 ≤ sizeLine; decide), fun t nt => ?_⟩
              exact give (w := "put") (ps := [slot, z]) (fs := ["slot", "word"]) (k2.trans ho3.bs) ga3 nt rfl (by decide +kernel) (by decide +kernel) (by decide +kernel) (fun z => absurd z (by decide +kernel)) (.cons psl (.cons (pgw (wok.w.2.2 _ hz) (.inr (.inr (.inr (.inr (.inr (.inr rfl))))))) .nil))
      · have sp : 0 < kt.sigs.length := List.length_pos_iff.mpr sg
        refine iteT' (decide_eq_true (by omega)) ?_
        refine ⟨_, rfl, _, rfl, kd, _, rfl, kg_signals ga2, ?_⟩
        refine ⟨.inr (.inr (.inl ⟨rfl, .inl ⟨_, ga2.hs⟩⟩)), s', kt.ks, rfl, rfl, ga2.hs, fun p np => ?_⟩
        have S3 : Same H2 (upd H2 p (KeysO p s')) := Same.new np
        have hp : upd H2 p (KeysO p s') p = some (KeysO p s') := upd_same
        generalize upd H2 p (KeysO p s') = H3 at S3 hp ⊢
        have ga3 := ga2.same S3
        refine ⟨p, s', kt.ks, kt.sigs, rfl, hp, ga3.hs, ok.s, Nat.lt_of_le_of_lt wok.s.1 (by decide), fun ys q pm so nq => ?_⟩
        have S4 : Same H3 (upd H3 q (.lst (ys.map V.str))) := Same.new nq
        have hq : upd H3 q (.lst (ys.map V.str)) q = some (.lst (ys.map V.str)) := upd_same
        generalize upd H3 q (.lst (ys.map V.str)) = H4 at S4 hq ⊢
        have ga4 := ga3.same S4
        have yl := pm.length_eq
        refine ⟨b, c, q, _, rfl, ga4.bg, SqL.of hq, ?_, few (Nat.le_of_eq yl) (by have := wok.s.1; omega), fun v H5 hv hb5 ho5 => ?_⟩
        · intro z
          have := congrArg List.length z
          rw [List.length_map, yl, List.length_nil] at this
          omega
        obtain ⟨z, hz, rfl⟩ := List.mem_map.mp hv
        have ga5 := ga4.bs ho5.bs hb5
        refine ⟨_, rfl, by show 3 ≤ sizeLine; decide, fun t nt => ?_⟩
        have k5 : Bs H H5 b := k2.trans ((Same.bs (S3.trans S4)).trans ho5.bs)
        have hz2 := pm.mem_iff.mp hz
        exact give (w := "take") (ps := [z, slot]) (fs := ["signal", "slot"]) k5 ga5 nt rfl (by decide +kernel) (by decide +kernel) (by decide +kernel) (fun z => absurd z (by decide +kernel)) (.cons (pgw (wok.s.2 _ hz2) (.inr (.inl ⟨rfl, hz2⟩))) (.cons psl .nil))
    · refine iteF' (decide_eq_false (fun z => p8 (by have := V.int.inj z; omega))) ?_
      refine iteF ?_
      refine ⟨_, rfl, rfl, _, rfl, ?_⟩
      by_cases p9 : pick = 9
      · refine iteT' (decide_eq_true (by rw [p9]; rfl)) ?_
        refine ⟨_, rfl, _, rfl, _, rfl, b, c, 3, rfl, hb2, (by decide), fun n H3 hn hb3 ho3 => ⟨_, _, rfl, rfl, ?_⟩⟩
        have ga3 := ga2.bs ho3.bs hb3
        refine ⟨(by show 0 ≤ sizeLine; decide), fun q nq => ?_⟩
        have S4 : Same H3 (upd H3 q (.lst [])) := Same.new nq
        have hq : upd H3 q (.lst []) q = some (.lst []) := upd_same
        generalize upd H3 q (.lst []) = H4 at S4 hq ⊢
        have ga4 := ga3.same S4
        refine ⟨b, c, q, 1 + n, 1, [], (by rw [show ((1 + n : Nat) : Int) = 1 + (n : Int) by omega]; rfl), ga4.bg, (by decide), (by decide), (by omega), (by simp), SqL.of hq, fun zs p H5 zl zok hb5 bs5 np hp => ?_⟩
        have ga5 := ga4.bs bs5 hb5
        refine ⟨p, _, rfl, .inl ⟨SqL.of hp, fun q4 n4 => ?_⟩⟩
        have S6 : Same H5 (upd H5 q4 (.tup (zs.map V.str))) := Same.new n4
        have hq4 : upd H5 q4 (.tup (zs.map V.str)) q4 = some (.tup (zs.map V.str)) := upd_same
        generalize upd H5 q4 (.tup (zs.map V.str)) = H6 at S6 hq4 ⊢
        have ga6 := ga5.same S6
        refine ⟨(by show 3 ≤ sizeLine; decide), fun t nt => ?_⟩
        have k5 : Bs H H5 b := k2.trans (ho3.bs.trans ((Same.bs S4).trans bs5))
        have k6 : Bs H H6 b := k5.trans (Same.bs S6)
        have lo : LocalOk kt il "note" ([.word slot, .words zs] : List (Pt (Row d))) := by
          refine ⟨by decide +kernel, by decide +kernel, ?_, fun z => absurd z (by decide +kernel)⟩
          rw [show fsOf "note" = (["slot", "words"] : List Str) by decide +kernel]
          refine .cons psl (.cons ⟨.inr rfl, ?_, fun z => absurd z (by decide +kernel)⟩ .nil)
          exact areW_of (m := 3) (fun z => by rw [z] at zl; simp at zl; omega) (by omega) zok.w zok.n
        obtain ⟨gd, rz⟩ := good_leaf lo rfl
        have ht0 : H t = none := bs_free k6 ga6.bg nt
        have nq4 : H q4 = none := bs_free k5 hb5 n4
        exact k _ t ("note", [.word slot, .words zs]) (k6.k2.trans (Kp.of (Same.new nt))) (ga6.same (Same.new nt)) ⟨t, _, rfl, SqT.of (by rw [res_of (S := NL H) (NL.new ht0)]; exact upd_same), .cons rfl (.cons ⟨q4, rfl, SqT.of (by rw [res_of (S := NL H) (NL.new nq4)]; exact Same.new nt _ _ hq4)⟩ .nil)⟩ gd rz
      · refine iteF' (decide_eq_false (fun z => p9 (by have := V.int.inj z; omega))) ?_
        refine ⟨_, rfl, rfl, _, rfl, ?_⟩
        by_cases p15 : pick = 15
        · refine iteT' (decide_eq_true (by rw [p15]; rfl)) ?_
          cases il with
          | true =>
            refine ⟨_, rfl, ?_⟩
            refine ⟨_, rfl, ?_⟩
            refine iteT ?_
            refine ⟨(by show 1 ≤ sizeLine; decide), fun t nt => ?_⟩
            exact give (w := "leave") (ps := []) (fs := []) k2 ga2 nt rfl (by decide +kernel) (by decide +kernel) (by decide +kernel) (fun _ => rfl) .nil
          | false =>
            refine ⟨_, rfl, ?_⟩
            refine ⟨_, rfl, ?_⟩
            refine iteF ?_
            refine ⟨_, rfl, rfl, _, rfl, ?_⟩
            by_cases p15 : pick = 15
            · refine iteT' (decide_eq_true (by rw [p15]; rfl)) ?_
              refine ⟨_, rfl, (by show 2 ≤ sizeLine; decide), fun q nq => ?_⟩
              have S3 : Same H2 (upd H2 q (.lst [.str "end", .str "anew"])) := Same.new nq
              have hq : upd H2 q (.lst [.str "end", .str "anew"]) q = some (.lst [.str "end", .str "anew"]) := upd_same
              generalize upd H2 q (.lst [.str "end", .str "anew"]) = H3 at S3 hq ⊢
              have ga3 := ga2.same S3
              refine ⟨b, c, q, _, rfl, ga3.bg, SqL.of hq, (by simp), (by show 2 < 1000000; decide), fun v H4 hv hb4 ho4 => ?_⟩
              have ga4 := ga3.bs ho4.bs hb4
              refine ⟨_, rfl, _, rfl, kd, _, rfl, kg_slots ga4, (by show 1 ≤ sizeLine; decide), fun q2 n2 => ?_⟩
              have S5 : Same H4 (upd H4 q2 (.lst [.str "in"])) := Same.new n2
              have hq2 : upd H4 q2 (.lst [.str "in"]) q2 = some (.lst [.str "in"]) := upd_same
              generalize upd H4 q2 (.lst [.str "in"]) = H5 at S5 hq2 ⊢
              have ga5 := ga4.same S5
              refine ⟨sl, q2, kt.slots.map V.str, [.str "in"], rfl, rfl, ga5.hsl, hq2, ?_, fun q3 n3 => ?_⟩
              · rw [List.length_map, sizeLine_eq]
                have := wok.sl.2.1
                show _ + 1 ≤ _
                omega
              have S6 : Same H5 (upd H5 q3 (.lst (kt.slots.map V.str ++ [.str "in"]))) := Same.new n3
              have hq3 : upd H5 q3 (.lst (kt.slots.map V.str ++ [.str "in"])) q3 = some (.lst ((kt.slots ++ (["in"] : List Str)).map V.str)) := by
                rw [upd_same, List.map_append]
                rfl
              generalize upd H5 q3 (.lst (kt.slots.map V.str ++ [.str "in"])) = H6 at S6 hq3 ⊢
              have ga6 := ga5.same S6
              refine ⟨b, c, q3, _, rfl, ga6.bg, SqL.of hq3, listNe (by simp), few (n := 11) (by have := wok.sl.2.1; rw [List.length_append]; show _ + 1 ≤ _; omega) (by decide), fun v2 H7 hv2 hb7 ho7 => ?_⟩
              obtain ⟨z, hz, rfl⟩ := List.mem_map.mp hv2
              have ga7 := ga6.bs ho7.bs hb7
              refine ⟨(by show 2 ≤ sizeLine; decide), fun t nt => ?_⟩
              have hzz : PG kt "source" (.word z : Pt (Row d)) := by
                rcases List.mem_append.mp hz with h | h
                · exact pgw (wok.sl.2.2 _ h) (.inr (.inr (.inr (.inl ⟨rfl, .inl h⟩))))
                · rw [List.mem_singleton.mp h]; exact pgw (by decide +kernel) (.inr (.inr (.inr (.inl ⟨rfl, .inr rfl⟩))))
              have k7 : Bs H H7 b := k2.trans ((Same.bs S3).trans (ho4.bs.trans ((Same.bs (S5.trans S6)).trans ho7.bs)))
              have wv : v = .str "end" ∨ v = .str "anew" := by simpa using hv
              rcases wv with rfl | rfl
              · exact give (w := "end") (ps := [z]) (fs := ["source"]) k7 ga7 nt rfl (by decide +kernel) (by decide +kernel) (by decide +kernel) (fun z => absurd z (by decide +kernel)) (.cons hzz .nil)
              · exact give (w := "anew") (ps := [z]) (fs := ["source"]) k7 ga7 nt rfl (by decide +kernel) (by decide +kernel) (by decide +kernel) (fun z => absurd z (by decide +kernel)) (.cons hzz .nil)
            · refine iteF' (decide_eq_false (fun z => p15 (by have := V.int.inj z; omega))) ?_
              refine ⟨_, rfl, _, rfl, _, rfl, kd, _, rfl, kg_words ga2, b, c, ww, _, rfl, ga2.bg, SqL.of ga2.hw, listNe wok.w.1, few wok.w.2.1 (by decide), fun v H3 hv hb3 ho3 => ?_⟩
              obtain ⟨z, hz, rfl⟩ := List.mem_map.mp hv
              have ga3 := ga2.bs ho3.bs hb3
              refine ⟨(by show 3 ≤ sizeLine; decide), fun t nt => ?_⟩
              exact give (w := "put") (ps := [slot, z]) (fs := ["slot", "word"]) (k2.trans ho3.bs) ga3 nt rfl (by decide +kernel) (by decide +kernel) (by decide +kernel) (fun z => absurd z (by decide +kernel)) (.cons psl (.cons (pgw (wok.w.2.2 _ hz) (.inr (.inr (.inr (.inr (.inr (.inr rfl))))))) .nil))
        · refine iteF' (decide_eq_false (fun z => p15 (by have := V.int.inj z; omega))) ?_
          refine iteF ?_
          refine ⟨_, rfl, rfl, _, rfl, ?_⟩
          by_cases p15 : pick = 15
          · refine iteT' (decide_eq_true (by rw [p15]; rfl)) ?_
            refine ⟨_, rfl, (by show 2 ≤ sizeLine; decide), fun q nq => ?_⟩
            have S3 : Same H2 (upd H2 q (.lst [.str "end", .str "anew"])) := Same.new nq
            have hq : upd H2 q (.lst [.str "end", .str "anew"]) q = some (.lst [.str "end", .str "anew"]) := upd_same
            generalize upd H2 q (.lst [.str "end", .str "anew"]) = H3 at S3 hq ⊢
            have ga3 := ga2.same S3
            refine ⟨b, c, q, _, rfl, ga3.bg, SqL.of hq, (by simp), (by show 2 < 1000000; decide), fun v H4 hv hb4 ho4 => ?_⟩
            have ga4 := ga3.bs ho4.bs hb4
            refine ⟨_, rfl, _, rfl, kd, _, rfl, kg_slots ga4, (by show 1 ≤ sizeLine; decide), fun q2 n2 => ?_⟩
            have S5 : Same H4 (upd H4 q2 (.lst [.str "in"])) := Same.new n2
            have hq2 : upd H4 q2 (.lst [.str "in"]) q2 = some (.lst [.str "in"]) := upd_same
            generalize upd H4 q2 (.lst [.str "in"]) = H5 at S5 hq2 ⊢
            have ga5 := ga4.same S5
            refine ⟨sl, q2, kt.slots.map V.str, [.str "in"], rfl, rfl, ga5.hsl, hq2, ?_, fun q3 n3 => ?_⟩
            · rw [List.length_map, sizeLine_eq]
              have := wok.sl.2.1
              show _ + 1 ≤ _
              omega
            have S6 : Same H5 (upd H5 q3 (.lst (kt.slots.map V.str ++ [.str "in"]))) := Same.new n3
            have hq3 : upd H5 q3 (.lst (kt.slots.map V.str ++ [.str "in"])) q3 = some (.lst ((kt.slots ++ (["in"] : List Str)).map V.str)) := by
              rw [upd_same, List.map_append]
              rfl
            generalize upd H5 q3 (.lst (kt.slots.map V.str ++ [.str "in"])) = H6 at S6 hq3 ⊢
            have ga6 := ga5.same S6
            refine ⟨b, c, q3, _, rfl, ga6.bg, SqL.of hq3, listNe (by simp), few (n := 11) (by have := wok.sl.2.1; rw [List.length_append]; show _ + 1 ≤ _; omega) (by decide), fun v2 H7 hv2 hb7 ho7 => ?_⟩
            obtain ⟨z, hz, rfl⟩ := List.mem_map.mp hv2
            have ga7 := ga6.bs ho7.bs hb7
            refine ⟨(by show 2 ≤ sizeLine; decide), fun t nt => ?_⟩
            have hzz : PG kt "source" (.word z : Pt (Row d)) := by
              rcases List.mem_append.mp hz with h | h
              · exact pgw (wok.sl.2.2 _ h) (.inr (.inr (.inr (.inl ⟨rfl, .inl h⟩))))
              · rw [List.mem_singleton.mp h]; exact pgw (by decide +kernel) (.inr (.inr (.inr (.inl ⟨rfl, .inr rfl⟩))))
            have k7 : Bs H H7 b := k2.trans ((Same.bs S3).trans (ho4.bs.trans ((Same.bs (S5.trans S6)).trans ho7.bs)))
            have wv : v = .str "end" ∨ v = .str "anew" := by simpa using hv
            rcases wv with rfl | rfl
            · exact give (w := "end") (ps := [z]) (fs := ["source"]) k7 ga7 nt rfl (by decide +kernel) (by decide +kernel) (by decide +kernel) (fun z => absurd z (by decide +kernel)) (.cons hzz .nil)
            · exact give (w := "anew") (ps := [z]) (fs := ["source"]) k7 ga7 nt rfl (by decide +kernel) (by decide +kernel) (by decide +kernel) (fun z => absurd z (by decide +kernel)) (.cons hzz .nil)
          · refine iteF' (decide_eq_false (fun z => p15 (by have := V.int.inj z; omega))) ?_
            refine ⟨_, rfl, _, rfl, _, rfl, kd, _, rfl, kg_words ga2, b, c, ww, _, rfl, ga2.bg, SqL.of ga2.hw, listNe wok.w.1, few wok.w.2.1 (by decide), fun v H3 hv hb3 ho3 => ?_⟩
            obtain ⟨z, hz, rfl⟩ := List.mem_map.mp hv
            have ga3 := ga2.bs ho3.bs hb3
            refine ⟨(by show 3 ≤ sizeLine; decide), fun t nt => ?_⟩
            exact give (w := "put") (ps := [slot, z]) (fs := ["slot", "word"]) (k2.trans ho3.bs) ga3 nt rfl (by decide +kernel) (by decide +kernel) (by decide +kernel) (fun z => absurd z (by decide +kernel)) (.cons psl (.cons (pgw (wok.w.2.2 _ hz) (.inr (.inr (.inr (.inr (.inr (.inr rfl))))))) .nil))
end
end OR

set_option Elab.async false
set_option maxRecDepth 100000
set_option maxHeartbeats 8000000
set_option linter.all false
namespace OR
open PySem PySem.Spec PyProof.Rows L2 TS2
def spList (K : PySem.W.Frag) : Nat → Sp
  | 0 => fun _ _ _ _ => False
  | d + 1 => fun vs H Q _ => ∃ (b c kd : Addr) (kt : Kit) (room e : Nat) (il : Bool) (a s g i l sl w0 : Addr), vs = [.ref b, .ref kd, .int e, .bl il] ∧ e + (d + 1) = 6 ∧ GenAt K H b c kd kt room a s g i l sl w0 ∧ kt.Ok ∧ kt.Words ∧ room ≤ 14 ∧
    ∀ (H' : Hp) (D : Addr) (xs : List V) (rows : List (Row (d + 1))) (room' : Nat), Kp (C2 b kd) H H' → GenAt K H' b c kd kt room' a s g i l sl w0 → H D = none → H' D = some (.lst xs) → All2 (RowAt K (res (NL H) H') (d + 1)) rows xs → (∀ r ∈ rows, Good kt (d + 1) il r) → lsz (d + 1) rows + room' ≤ room → rows.length ≤ 8 → Q (.ref D) H'
def spGreat (K : PySem.W.Frag) (d : Nat) : Sp := fun vs H Q _ => ∃ (b c kd : Addr) (kt : Kit) (room e pick : Nat) (il : Bool) (a s g i l sl w0 : Addr), vs = [.ref b, .ref kd, .int pick, .int e, .bl il] ∧ e + (d + 1) = 6 ∧ 1 ≤ d ∧ 11 ≤ pick ∧ pick ≤ 14 ∧ GenAt K H b c kd kt room a s g i l sl w0 ∧ kt.Ok ∧ kt.Words ∧ room ≤ 14 ∧
  ∀ (H' : Hp) (t : Addr) (r : Row (d + 1)) (room' : Nat), Kp (C2 b kd) H H' → GenAt K H' b c kd kt room' a s g i l sl w0 → RowAt K (res (NL H) H') (d + 1) r (.ref t) → Good kt (d + 1) il r → rsz (d + 1) r + room' ≤ room + 1 → Q (.ref t) H'
/-- what great rows hand to their lists -/
def inFlag (il : Bool) (pick : Nat) : Bool := (il || decide (pick = 12)) && decide (pick ≠ 13)
/-- what is new, or a tuple, beside the list that is being made -/
noncomputable def RR (H : Hp) (D : Addr) (H' : Hp) : Hp := res (fun x => NL H x ∧ x ≠ D) H'
section
variable {K : PySem.W.Frag} {H H1 H2 : Hp} {b c kd : Addr} {kt : Kit} {room : Int} {a s g i l sl w0 : Addr}
theorem nl_kp {x : Addr} (kp : Kp (C2 b kd) H H1) (ga : GenAt K H1 b c kd kt room a s g i l sl w0) (h : NL H1 x) : NL H x := by
  obtain ⟨kvs, hb⟩ := ga.bg.dk
  intro o e
  refine h o (kp x o e ?_)
  rintro (rfl | rfl)
  · exact h.no hb rfl
  · exact h.no ga.ob rfl
theorem rr_old {D : Addr} (ga : GenAt K H b c kd kt room a s g i l sl w0) (kp : Kp (C2 b kd) H1 H2) : Same (RR H D H1) (RR H D H2) := same_res fun x o n e => by
  obtain ⟨kvs, hb⟩ := ga.bg.dk
  refine ⟨n, kp x o e ?_⟩
  rintro (rfl | rfl)
  · exact n.1.no hb rfl
  · exact n.1.no ga.ob rfl
theorem rr_new {D : Addr} {xs : List V} (kp : Kp (C2 b kd) H H1) (ga : GenAt K H1 b c kd kt room a s g i l sl w0) (hD : H1 D = some (.lst xs)) : Same (res (NL H1) H2) (RR H D H2) := same_res fun x o n e => ⟨⟨nl_kp kp ga n, fun z => by subst z; exact n.no hD rfl⟩, e⟩
theorem rr_upd {H' : Hp} {D : Addr} {o : HO} : Same (RR H D H') (RR H D (upd H' D o)) := same_res fun x u n e => ⟨n, by rw [upd_ne n.2]; exact e⟩
theorem rr_nl {H' : Hp} {D : Addr} : Same (RR H D H') (res (NL H) H') := same_res fun x u n e => ⟨n.1, e⟩
/-- an object beside the bag and the kit is written -/
theorem GenAt.beside {D : Addr} {o : HO} (ga : GenAt K H1 b c kd kt room a s g i l sl w0) (gb : GenAt K H b c kd kt room' a s g i l sl w0) (n : H D = none) : GenAt K (upd H1 D o) b c kd kt room a s g i l sl w0 := by
  have k : ∀ {x : Addr} {u v : HO}, H x = some u → H1 x = some v → upd H1 D o x = some v := fun e q => by rw [upd_ne (ne_of_none e n)]; exact q
  obtain ⟨n1, n2⟩ := Bg.tr gb.bg n
  exact ⟨ga.bg.beside n1 n2, k gb.ob ga.ob, k gb.ha ga.ha, k gb.hs ga.hs, k gb.hg ga.hg, k gb.hi ga.hi, k gb.hl ga.hl, k gb.hsl ga.hsl, k gb.hw ga.hw, ga.nb, ga.nk⟩
end
theorem le_sum_mem {x : Nat} : ∀ {l : List Nat}, x ∈ l → x ≤ l.sum
  | y :: l, h => by
    rw [List.sum_cons]
    rcases List.mem_cons.mp h with rfl | h
    · omega
    · have := le_sum_mem h
      omega
theorem flag_val {σ : L2.St} {H : Hp} {Q : VK} {il : Bool} {pick : Nat} (h4 : σ[4]? = some (some (.bl il))) (h2 : σ[2]? = some (some (.int pick))) (k : Q (.bl (inFlag il pick)) H) : tAndV (tOrV (tVar 4) (tOp rEq (tVar 2) (tC (.int 12)))) (tOp rNe (tVar 2) (tC (.int 13))) σ H Q := by
  have e12 : decide (V.int (pick : Int) = V.int 12) = decide (pick = 12) := by
    by_cases c : pick = 12
    · subst c; rfl
    · rw [decide_eq_false c]; exact decide_eq_false fun z => c (by have := V.int.inj z; omega)
  have e13 : (!decide (V.int (pick : Int) = V.int 13)) = decide (pick ≠ 13) := by
    by_cases c : pick = 13
    · subst c; rfl
    · rw [decide_eq_true c, decide_eq_false fun z => c (by have := V.int.inj z; omega)]; rfl
  refine ⟨_, h4, ?_⟩
  refine ⟨il, rfl, ?_⟩
  cases il with
  | true =>
    refine iteT ?_
    refine ⟨true, rfl, ?_⟩
    refine iteT ?_
    refine ⟨_, h2, rfl, ?_⟩
    rw [e13]
    exact k
  | false =>
    refine iteF ?_
    refine ⟨_, h2, rfl, ?_⟩
    rw [e12]
    refine ⟨_, rfl, ?_⟩
    by_cases c : pick = 12
    · refine iteT' (decide_eq_true c) ?_
      refine ⟨_, h2, rfl, ?_⟩
      rw [e13]
      have : inFlag false pick = decide (pick ≠ 13) := by unfold inFlag; rw [decide_eq_true c]; rfl
      rw [← this]
      exact k
    · refine iteF' (decide_eq_false c) ?_
      have : inFlag false pick = false := by unfold inFlag; rw [decide_eq_false c]; rfl
      rw [this] at k
      exact k
section
variable {P : Program} {w : World} {K : PySem.W.Frag} {mg : Str → Option Value} {base : Heap}
theorem ok_great_row {k0 d : Nat} {f : Addr} {fd : FuncData} (F : FnP K "_law_great_row" "_law_great_row" s__law_great_row f fd) (T : Tx w K mg) (h4 : 4 ≤ k0) (G__law_draw : Def P w K mg base CX0 1 "_law_draw" p__law_draw spDraw) (G__law_one : Def P w K mg base CX0 2 "_law_one" p__law_one (spOne K))
    (G__law_list : Def P w K mg base CX0 k0 "_law_list" p__law_list (spList K d)) : FnOk P w K mg base CX0 (k0 + 1) f fd p__law_great_row (spGreat K d) := by
  refine F.ok sc__law_great_row (fun vs H Q E h => ?_) (fun cdv A outer s H vs Q E hr h => ?_)
  · obtain ⟨b, c, kd, kt, room, e, pick, il, _, _, _, _, _, _, _, rfl, _⟩ := h
    rfl
  · obtain ⟨b, c, kd, kt, room, e, pick, il, a, s', g, i, l, sl, w0, rfl, he, d1, p11, p14, ga, ok, wok, r14, k⟩ := h
    obtain ⟨d, rfl⟩ : ∃ d', d = d' + 1 := ⟨d - 1, by omega⟩
    have hu := hu_of hr
    refine ⟨_, PSs.nox (pss_cons (ps_setLc (i := 5) (own := [("_law_k", 6)]) (g := (gName 6)) (by rfl) sc__law_great_row.nd rfl rfl (sw_true rfl rfl rfl (by decide +kernel)) (pi_range1 (by rfl) T.b_range (pa_cons pe_int pa_nil)) (blkOk_by (N := n__law_great_row) (sc := defScope s__law_great_row) (by decide +kernel)) (fun _ _ _ _ _ => (pg_name (i := 6) sc__law_great_row.nd rfl (.inl rfl))) (fun _ _ _ _ _ => pts_nil) (fun _ _ _ _ _ => (pe_fn G__law_list (hr.mono (by omega)) (by rfl) pass0 (pa_cons (pv 0) (pa_cons (pv 1) (pa_cons (pe_op op_add (pv 3) pe_int) (pa_cons (pe_and (pe_or (pv 4) (pe_one (pe_cmpR op_eq (pv 2) pe_int (nomark _)))) (pe_one (pe_cmpR op_ne (pv 2) pe_int (nomark _)))) pa_nil)))))))
      (pss_cons (ps_if (pt_cmpR op_eq (pv 2) pe_int (nomark _)) (pss_one (ps_ret (pe_tup (pa_cons pe_str (pa_cons (pe_fn G__law_one (hr.mono (by omega)) (by rfl) pass0 (pa_cons (pv 0) (pa_cons (pe_op op_cat (pe_dget hu (pv 1) pe_str (fun _ _ => rfl)) (pe_lst (pa_cons pe_str pa_nil))) pa_nil))) (pa_cons (pe_fn G__law_one (hr.mono (by omega)) (by rfl) pass0 (pa_cons (pv 0) (pa_cons (pe_dget hu (pv 1) pe_str (fun _ _ => rfl)) pa_nil))) (pa_cons (pe_ix ix_list (pv 5) pe_int (fun _ _ => rfl)) (pa_cons (pe_ix ix_list (pv 5) pe_int (fun _ _ => rfl)) pa_nil)))))))) pss_nil)
      (pss_cons (ps_if (pt_cmpR op_eq (pv 2) pe_int (nomark _)) (pss_one (ps_ret (pe_tup (pa_cons pe_str (pa_cons (pe_op op_cat (pe_ix ix_list (pv 5) pe_int (fun _ _ => rfl)) (pe_ix ix_list (pv 5) pe_int (fun _ _ => rfl))) pa_nil))))) pss_nil)
      (pss_cons (ps_if (pt_cmpR op_eq (pv 2) pe_int (nomark _)) (pss_cons (ps_if (pt_cmpR op_eq (pe_fn G__law_draw (hr.mono (by omega)) (by rfl) pass0 (pa_cons (pv 0) (pa_cons pe_int pa_nil))) pe_int (nomark _)) (pss_one (ps_expr (pe_bm PySem.F.plainAttrs_list PySem.F.slot_list_append PySem.F.type_list_append mt_append (pv 5) (pa_cons (pe_fn G__law_list (hr.mono (by omega)) (by rfl) pass0 (pa_cons (pv 0) (pa_cons (pv 1) (pa_cons (pe_op op_add (pv 3) pe_int) (pa_cons pe_bl pa_nil))))) pa_nil)))) pss_nil)
      (pss_one (ps_ret (pe_tup (pa_cons pe_str (pa_cons (pe_callTy call_tuple_of (by rfl) T.b_tuple (by decide +kernel) (pa_cons (pv 5) pa_nil)) pa_nil)))))) pss_nil)
      (pss_cons (ps_if (pt_cmpR op_eq (pe_callB call_len_seq (by rfl) T.b_len PySem.boot_len (pa_cons (pe_dget hu (pv 1) pe_str (fun _ _ => rfl)) pa_nil)) pe_int (nomark _)) (pss_one (ps_ret (pe_tup (pa_cons pe_str (pa_cons (pe_op op_cat (pe_ix ix_list (pv 5) pe_int (fun _ _ => rfl)) (pe_ix ix_list (pv 5) pe_int (fun _ _ => rfl))) pa_nil))))) pss_nil)
      (pss_cons (ps_if (pt_cmpR op_eq (pe_fn G__law_draw (hr.mono (by omega)) (by rfl) pass0 (pa_cons (pv 0) (pa_cons pe_int pa_nil))) pe_int (nomark _)) (pss_one (ps_ret (pe_tup (pa_cons pe_str (pa_cons (pe_fn G__law_one (hr.mono (by omega)) (by rfl) pass0 (pa_cons (pv 0) (pa_cons (pe_dget hu (pv 1) pe_str (fun _ _ => rfl)) pa_nil))) (pa_cons (pe_op op_cat (pe_ix ix_list (pv 5) pe_int (fun _ _ => rfl)) (pe_ix ix_list (pv 5) pe_int (fun _ _ => rfl))) pa_nil)))))) pss_nil)
      (pss_one (ps_ret (pe_tup (pa_cons pe_str (pa_cons (pe_fn G__law_one (hr.mono (by omega)) (by rfl) pass0 (pa_cons (pv 0) (pa_cons (pe_dget hu (pv 1) pe_str (fun _ _ => rfl)) pa_nil))) (pa_cons (pe_ix ix_list (pv 5) pe_int (fun _ _ => rfl)) (pa_cons (pe_ix ix_list (pv 5) pe_int (fun _ _ => rfl)) pa_nil))))))))))))), ?_⟩
    refine ⟨2, rfl, by decide, by decide, fun D nD => ?_⟩
    refine lc_range (lo := 0) (n := 2) (fun i2 H' => ∃ (ls : List (List (Row (d + 1)))) (xs : List V) (rm : Nat), ls.length = i2 ∧ H' D = some (.lst xs) ∧ All2 (LstAt (RR H D H') (RowAt K (RR H D H') (d + 1))) ls xs ∧ (∀ l ∈ ls, ∀ r ∈ l, Good kt (d + 1) (inFlag il pick) r) ∧ Kp (C2 b kd) H H' ∧ GenAt K H' b c kd kt rm a s' g i l sl w0 ∧ (ls.map (lsz (d + 1))).sum + rm ≤ room)
      ⟨[], [], room, rfl, upd_same, .nil, (fun l hl => by cases hl), Kp.of (Same.new nD), ga.same (Same.new nD), by simp⟩ (fun i2 H1 hi q => ?_) (fun H1 q => ?_)
    · obtain ⟨ls, xs, rm, ll, hD, hls, hgd, kp, ga1, hsz⟩ := q
      refine ⟨rfl, ?_⟩
      refine tYes_ ?_
      refine iteT ?_
      refine ⟨_, rfl, _, rfl, _, rfl, _, _, rfl, rfl, ?_⟩
      refine flag_val rfl rfl ?_
      have he2 : ((e : Int) + 1) = ((e + 1 : Nat) : Int) := by omega
      refine ⟨b, c, kd, kt, rm, e + 1, inFlag il pick, a, s', g, i, l, sl, w0, by show [_, _, V.int ((e : Int) + 1), _] = _; rw [he2], by omega, ga1, ok, wok, by omega, fun H2 L zs rows rm2 kp2 ga2 nL hL hrows hg2 hsz2 _ => ?_⟩
      have SO : Same (RR H D H1) (RR H D H2) := rr_old ga kp2
      have SN : Same (res (NL H1) H2) (RR H D H2) := rr_new kp ga1 hD
      have kpD : Kp (C2 b kd) H1 H2 := kp2
      have Db : ¬ C2 b kd D := by
        obtain ⟨kvs, hb⟩ := ga.bg.dk
        rintro (rfl | rfl)
        · rw [hb] at nD; cases nD
        · rw [ga.ob] at nD; cases nD
      have hD2 : H2 D = some (.lst xs) := kp2 _ _ hD Db
      have lx : xs.length = ls.length := hls.len.symm
      refine ⟨xs, hD2, small1000 (by omega), ls ++ [rows], xs ++ [.ref L], rm2, by simp [ll], upd_same, ?_, ?_, ?_, ga2.beside ga nD, ?_⟩
      · refine All2.app (hls.imp fun x y _ q => LstAt.mono (SO.trans rr_upd) (fun r v q => RowAt.mono (SO.trans rr_upd) q) q) (All2.one ⟨L, zs, rfl, ?_, hrows.imp fun x y _ q => RowAt.mono (SN.trans rr_upd) q⟩)
        refine rr_upd _ _ (SN _ _ ?_)
        rw [res_of (S := NL H1) (NL.new nL)]
        exact hL
      · intro l2 hl2
        rcases List.mem_append.mp hl2 with h | h
        · exact hgd l2 h
        · rw [List.mem_singleton.mp h]; exact hg2
      · intro x o hx nx
        rw [upd_ne (ne_of_none hx nD)]
        exact kp2 x o (kp x o hx nx) nx
      · rw [List.map_append, List.sum_append]
        simp only [List.map_cons, List.map_nil, List.sum_cons, List.sum_nil]
        omega
    · obtain ⟨ls, xs, rm, ll, hD, hls, hgd, kp, ga1, hsz⟩ := q
      obtain ⟨l0, l1, rfl⟩ : ∃ l0 l1, ls = [l0, l1] := by
        match ls, ll with
        | [x, y], _ => exact ⟨x, y, rfl⟩
      cases hls with
      | cons h0 t =>
      cases t with
      | cons h1 t =>
      cases t
      obtain ⟨L0, xs0, rfl, hL0, hr0⟩ := h0
      obtain ⟨L1, xs1, rfl, hL1, hr1⟩ := h1
      have sz : lsz (d + 1) l0 + lsz (d + 1) l1 + rm ≤ room := by simpa [Nat.add_assoc] using hsz
      have n0 := lsz_len (d := d + 1) (by omega) l0
      have n1 := lsz_len (d := d + 1) (by omega) l1
      have kpb : ∀ {H2 : Hp}, Bs H1 H2 b → Kp (C2 b kd) H1 H2 := fun h => h.k2
      have SR : ∀ {H2 : Hp}, Kp (C2 b kd) H1 H2 → Same (RR H D H1) (res (NL H) H2) := fun h => (rr_old ga h).trans rr_nl
      have kfree : ∀ {H2 : Hp} {x : Addr}, Kp (C2 b kd) H H2 → GenAt K H2 b c kd kt rm a s' g i l sl w0 → H2 x = none → H x = none := fun {H2 x} k g n => by
        cases q : H x with
        | none => rfl
        | some o =>
          obtain ⟨kvs, hb⟩ := g.bg.dk
          rw [k x o q (by rintro (rfl | rfl); rw [hb] at n; cases n; rw [g.ob] at n; cases n)] at n
          cases n
      have gf : ∀ (w : Str), innerLoop w il = inFlag il pick → ∀ l2 ∈ [l0, l1], ∀ r ∈ l2, Good kt (d + 1) (innerLoop w il) r := fun w e l2 h2 r hr => by rw [e]; exact hgd l2 h2 r hr
      have gapp : ∀ (w : Str), innerLoop w il = inFlag il pick → ∀ r ∈ l0 ++ l1, Good kt (d + 1) (innerLoop w il) r := fun w e r hr => by
        rw [e]
        rcases List.mem_append.mp hr with h | h
        · exact hgd l0 (by simp) r h
        · exact hgd l1 (by simp) r h
      have lapp : lsz (d + 1) (l0 ++ l1) = lsz (d + 1) l0 + lsz (d + 1) l1 := by unfold lsz; rw [List.map_append, List.sum_append]
      have wl : ∀ {fs zs : List Str} {ps : List (Pt (Row (d + 1)))} {gs : List Str}, All2 (fun f z => PG kt f (.word z : Pt (Row (d + 1)))) fs zs → All2 (PG kt) gs ps → All2 (PG kt) (fs ++ gs) (zs.map Pt.word ++ ps) := fun {fs zs ps gs} a c => by
        refine All2.app ?_ c
        induction a with
        | nil => exact .nil
        | cons h t ih => exact .cons h ih
      have wv : ∀ {H5 : Hp} {zs : List Str}, All2 (PtAt K H5 (RowAt K H5 (d + 1))) (zs.map Pt.word) (zs.map V.str) := fun {H5 zs} => by
        induction zs with
        | nil => exact .nil
        | cons z zs ih => exact .cons rfl ih
      have kw : ∀ {zs : List Str} {ps : List (Pt (Row (d + 1)))}, kids (zs.map Pt.word ++ ps) = kids ps := fun {zs ps} => by rw [kids_app, kids_words]; rfl
      have close1 : ∀ {H2 H3 H4 : Hp} {q t : Addr} {w : Str} {zs fs : List Str}, Kp (C2 b kd) H1 H2 → GenAt K H2 b c kd kt rm a s' g i l sl w0 → H2 q = none → H3 = upd H2 q (.lst (xs0 ++ xs1)) → H3 t = none → H4 = upd H3 t (.tup (.str w :: (zs.map V.str ++ [.ref q]))) → fsOf w = fs ++ ([("rows" : Str)] : List Str) → (w, fs ++ ([("rows" : Str)] : List Str)) ∈ ftab → w ≠ "edit" → w ≠ "leave" → innerLoop w il = inFlag il pick → All2 (fun f z => PG kt f (.word z : Pt (Row (d + 1)))) fs zs → Q (.ref t) H4 := by
        intro H2 H3 H4 q t w zs fs k2 ga2 nq e3 nt e4 ef hf ne nl eil al
        have S3 : Same H2 H3 := by rw [e3]; exact Same.new nq
        have S4 : Same H3 H4 := by rw [e4]; exact Same.new nt
        have k24 : Kp (C2 b kd) H1 H4 := k2.trans (Kp.of (S3.trans S4))
        have ga4 := ga2.same (S3.trans S4)
        have q0 : H q = none := kfree (kp.trans k2) ga2 nq
        have t0 : H t = none := kfree ((kp.trans k2).trans (Kp.of S3)) (ga2.same S3) nt
        have hq : H4 q = some (.lst (xs0 ++ xs1)) := S4 _ _ (by rw [e3]; exact upd_same)
        have hp : All2 (PtAt K (res (NL H) H4) (RowAt K (res (NL H) H4) (d + 1))) (zs.map Pt.word ++ [.rows (l0 ++ l1)]) (zs.map V.str ++ [.ref q]) := wv.app (.cons ⟨q, xs0 ++ xs1, rfl, by rw [res_of (S := NL H) (NL.new q0)]; exact hq, (hr0.app hr1).imp fun _ _ _ z => RowAt.mono (SR k24) z⟩ .nil)
        refine k H4 t (w, zs.map Pt.word ++ [.rows (l0 ++ l1)]) rm (kp.trans k24) ga4 ⟨t, _, rfl, SqT.of (by rw [res_of (S := NL H) (NL.new t0), e4]; exact upd_same), hp⟩ ⟨⟨by rw [ef]; exact hf, ne, ?_, fun z => absurd z nl⟩, fun _ => by omega, fun l2 hl2 r hr => ?_⟩ ?_
        · rw [ef]
          exact wl al (.one ⟨rfl, by have := lsz_len (d := d + 1) (by omega) (l0 ++ l1); omega⟩)
        · rw [show kids (w, zs.map Pt.word ++ [.rows (l0 ++ l1)]).2 = [l0 ++ l1] from kw] at hl2
          rw [List.mem_singleton.mp hl2] at hr
          exact gapp w eil r hr
        · show 1 + ((kids (zs.map Pt.word ++ [.rows (l0 ++ l1)])).map fun l => (l.map (rsz (d + 1))).sum).sum + rm ≤ room + 1
          rw [kw]
          show 1 + (lsz (d + 1) (l0 ++ l1) + 0) + rm ≤ room + 1
          omega
      have close2 : ∀ {H2 H4 : Hp} {t : Addr} {w : Str} {zs fs : List Str}, Kp (C2 b kd) H1 H2 → GenAt K H2 b c kd kt rm a s' g i l sl w0 → H2 t = none → H4 = upd H2 t (.tup (.str w :: (zs.map V.str ++ [.ref L0, .ref L1]))) → fsOf w = fs ++ ([("rows" : Str), "rows"] : List Str) → (w, fs ++ ([("rows" : Str), "rows"] : List Str)) ∈ ftab → w ≠ "edit" → w ≠ "leave" → innerLoop w il = inFlag il pick → All2 (fun f z => PG kt f (.word z : Pt (Row (d + 1)))) fs zs → Q (.ref t) H4 := by
        intro H2 H4 t w zs fs k2 ga2 nt e4 ef hf ne nl eil al
        have S4 : Same H2 H4 := by rw [e4]; exact Same.new nt
        have k24 : Kp (C2 b kd) H1 H4 := k2.trans (Kp.of S4)
        have ga4 := ga2.same S4
        have t0 : H t = none := kfree (kp.trans k2) ga2 nt
        have hp : All2 (PtAt K (res (NL H) H4) (RowAt K (res (NL H) H4) (d + 1))) (zs.map Pt.word ++ [.rows l0, .rows l1]) (zs.map V.str ++ [.ref L0, .ref L1]) := wv.app (.cons ⟨L0, xs0, rfl, SR k24 _ _ hL0, hr0.imp fun _ _ _ z => RowAt.mono (SR k24) z⟩ (.cons ⟨L1, xs1, rfl, SR k24 _ _ hL1, hr1.imp fun _ _ _ z => RowAt.mono (SR k24) z⟩ .nil))
        refine k H4 t (w, zs.map Pt.word ++ [.rows l0, .rows l1]) rm (kp.trans k24) ga4 ⟨t, _, rfl, SqT.of (by rw [res_of (S := NL H) (NL.new t0), e4]; exact upd_same), hp⟩ ⟨⟨by rw [ef]; exact hf, ne, ?_, fun z => absurd z nl⟩, fun _ => by omega, fun l2 hl2 r hr => ?_⟩ ?_
        · rw [ef]
          exact wl al (.cons ⟨rfl, by omega⟩ (.one ⟨rfl, by omega⟩))
        · rw [show kids (w, zs.map Pt.word ++ [.rows l0, .rows l1]).2 = [l0, l1] from kw] at hl2
          exact gf w eil l2 hl2 r hr
        · show 1 + ((kids (zs.map Pt.word ++ [.rows l0, .rows l1])).map fun l => (l.map (rsz (d + 1))).sum).sum + rm ≤ room + 1
          rw [kw]
          show 1 + (lsz (d + 1) l0 + (lsz (d + 1) l1 + 0)) + rm ≤ room + 1
          omega
      have DH : ∀ {H2 : Hp}, Bs H1 H2 b → H2 D = some (.lst [.ref L0, .ref L1]) := fun {H2} h => h _ _ hD (by
        obtain ⟨kvs, hb⟩ := ga.bg.dk
        rintro rfl
        rw [hb] at nD; cases nD)
      have listNe : ∀ {zs : List Str}, zs ≠ [] → zs.map V.str ≠ [] := fun h z => h (List.map_eq_nil_iff.mp z)
      have few : ∀ {zs : List Str} {n : Nat}, zs.length ≤ n → n ≤ 100 → (zs.map V.str).length < 1000000 := fun h h2 => by rw [List.length_map]; omega
      have LL0 : ∀ {H2 : Hp}, Bs H1 H2 b → H2 L0 = some (.lst xs0) ∧ H2 L1 = some (.lst xs1) := fun {H2} h => by
        obtain ⟨kvs, hb⟩ := ga1.bg.dk
        have a0 := (res_some hL0).2
        have a1 := (res_some hL1).2
        exact ⟨h _ _ a0 (ne_of a0 hb (by intro z; cases z)), h _ _ a1 (ne_of a1 hb (by intro z; cases z))⟩
      have lsum : xs0.length + xs1.length ≤ sizeLine := by
        rw [← hr0.len, ← hr1.len, sizeLine_eq]
        omega
      refine ⟨_, rfl, rfl, _, rfl, ?_⟩
      by_cases p11' : pick = 11
      · refine iteT' (decide_eq_true (by rw [p11']; rfl)) ?_
        refine ⟨_, rfl, _, rfl, kd, _, rfl, kg_slots ga1, (by show 1 ≤ sizeLine; decide), fun q2 n2 => ?_⟩
        have S5 : Same H1 (upd H1 q2 (.lst [.str "in"])) := Same.new n2
        have hq2 : upd H1 q2 (.lst [.str "in"]) q2 = some (.lst [.str "in"]) := upd_same
        generalize upd H1 q2 (.lst [.str "in"]) = H5 at S5 hq2 ⊢
        have ga5 := ga1.same S5
        refine ⟨sl, q2, kt.slots.map V.str, [.str "in"], rfl, rfl, ga5.hsl, hq2, ?_, fun q3 n3 => ?_⟩
        · rw [List.length_map, sizeLine_eq]
          have := wok.sl.2.1
          show _ + 1 ≤ _
          omega
        have S6 : Same H5 (upd H5 q3 (.lst (kt.slots.map V.str ++ [.str "in"]))) := Same.new n3
        have hq3 : upd H5 q3 (.lst (kt.slots.map V.str ++ [.str "in"])) q3 = some (.lst ((kt.slots ++ (["in"] : List Str)).map V.str)) := by
          rw [upd_same, List.map_append]
          rfl
        generalize upd H5 q3 (.lst (kt.slots.map V.str ++ [.str "in"])) = H6 at S6 hq3 ⊢
        have ga6 := ga5.same S6
        refine ⟨b, c, q3, _, rfl, ga6.bg, SqL.of hq3, listNe (by simp), few (n := 11) (by have := wok.sl.2.1; rw [List.length_append]; show _ + 1 ≤ _; omega) (by decide), fun v2 H7 hv2 hb7 ho7 => ?_⟩
        obtain ⟨z, hz, rfl⟩ := List.mem_map.mp hv2
        have ga7 := ga6.bs ho7.bs hb7
        have k7 : Bs H1 H7 b := (Same.bs (S5.trans S6)).trans ho7.bs
        refine ⟨_, rfl, _, rfl, kd, _, rfl, kg_words ga7, b, c, w0, _, rfl, ga7.bg, SqL.of ga7.hw, listNe wok.w.1, few wok.w.2.1 (by decide), fun v3 H8 hv3 hb8 ho8 => ?_⟩
        obtain ⟨y, hy, rfl⟩ := List.mem_map.mp hv3
        have ga8 := ga7.bs ho8.bs hb8
        have k8 : Bs H1 H8 b := k7.trans ho8.bs
        refine ⟨_, rfl, D, _, 0, .ref L0, rfl, rfl, SqL.of (DH k8), by rfl, _, rfl, D, _, 1, .ref L1, rfl, rfl, SqL.of (DH k8), by rfl, (by show 5 ≤ sizeLine; decide), fun t nt => ?_⟩
        have hzz : PG kt "source" (.word z : Pt (Row (d + 1))) := by
          rcases List.mem_append.mp hz with h | h
          · exact pgw (wok.sl.2.2 _ h) (.inr (.inr (.inr (.inl ⟨rfl, .inl h⟩))))
          · rw [List.mem_singleton.mp h]; exact pgw (by decide +kernel) (.inr (.inr (.inr (.inl ⟨rfl, .inr rfl⟩))))
        exact close2 (w := "if") (zs := [z, y]) (fs := ["source", "word"]) k8.k2 ga8 nt rfl (by decide +kernel) (by decide +kernel) (by decide +kernel) (by decide +kernel) (by rw [p11']; cases il <;> decide +kernel) (.cons hzz (.cons (pgw (wok.w.2.2 _ hy) (.inr (.inr (.inr (.inr (.inr (.inr rfl))))))) .nil))
      refine iteF' (decide_eq_false (fun z => p11' (by have := V.int.inj z; omega))) ?_
      have kr : Bs H1 H1 b := Bs.refl H1 b
      refine ⟨_, rfl, rfl, _, rfl, ?_⟩
      by_cases p12 : pick = 12
      · refine iteT' (decide_eq_true (by rw [p12]; rfl)) ?_
        refine ⟨_, rfl, D, _, 0, .ref L0, rfl, rfl, SqL.of hD, by rfl, _, rfl, D, _, 1, .ref L1, rfl, rfl, SqL.of hD, by rfl, L0, L1, xs0, xs1, rfl, rfl, (LL0 kr).1, (LL0 kr).2, lsum, fun q nq => ?_⟩
        refine ⟨(by show 2 ≤ sizeLine; decide), fun t nt => ?_⟩
        exact close1 (w := "loop") (zs := []) (fs := []) kr.k2 ga1 nq rfl nt rfl (by decide +kernel) (by decide +kernel) (by decide +kernel) (by decide +kernel) (by rw [p12]; cases il <;> decide +kernel) .nil
      refine iteF' (decide_eq_false (fun z => p12 (by have := V.int.inj z; omega))) ?_
      refine ⟨_, rfl, rfl, _, rfl, ?_⟩
      by_cases p13 : pick = 13
      · refine iteT' (decide_eq_true (by rw [p13]; rfl)) ?_
        have hLL : All2 (LstAt (RR H D H1) (RowAt K (RR H D H1) (d + 1))) [l0, l1] [.ref L0, .ref L1] := .cons ⟨L0, xs0, rfl, hL0, hr0⟩ (.cons ⟨L1, xs1, rfl, hL1, hr1⟩ .nil)
        have ef : inFlag il pick = false := by rw [p13]; cases il <;> decide +kernel
        have close3 : ∀ {H4 H5 : Hp} {ls : List (List (Row (d + 1)))} {xs : List V} {rm' : Nat} {q t : Addr}, (ls.length = 2 ∨ ls.length = 3) → All2 (LstAt (RR H D H4) (RowAt K (RR H D H4) (d + 1))) ls xs → (∀ l ∈ ls, ∀ r ∈ l, Good kt (d + 1) (inFlag il pick) r) → Kp (C2 b kd) H H4 → GenAt K H4 b c kd kt rm' a s' g i l sl w0 → (ls.map (lsz (d + 1))).sum + rm' ≤ room → H4 q = none → H5 = upd H4 q (.tup xs) → H5 t = none → Q (.ref t) (upd H5 t (.tup [.str "both", .ref q])) := by
          intro H4 H5 ls xs rm' q t hl hls hgd k4 ga4 hsz nq e5 nt
          have S5 : Same H4 H5 := by rw [e5]; exact Same.new nq
          have S6 : Same H5 (upd H5 t (.tup [.str "both", .ref q])) := Same.new nt
          have S46 := S5.trans S6
          have q0 : H q = none := by
            cases z : H q with
            | none => rfl
            | some o =>
              obtain ⟨kvs, hb⟩ := ga4.bg.dk
              rw [k4 q o z (by rintro (rfl | rfl); rw [hb] at nq; cases nq; rw [ga4.ob] at nq; cases nq)] at nq
              cases nq
          have t0 : H t = none := by
            cases z : H t with
            | none => rfl
            | some o =>
              obtain ⟨kvs, hb⟩ := ga4.bg.dk
              rw [S5 t o (k4 t o z (by rintro (rfl | rfl); rw [S5 _ _ hb] at nt; cases nt; rw [S5 _ _ ga4.ob] at nt; cases nt))] at nt
              cases nt
          have SX : Same (RR H D H4) (res (NL H) (upd H5 t (.tup [.str "both", .ref q]))) := same_res fun x o n e => ⟨n.1, S46 x o e⟩
          refine k _ t ("both", [.sides ls]) rm' (k4.trans (Kp.of S46)) (ga4.same S46) ⟨t, _, rfl, SqT.of (by rw [res_of (S := NL H) (NL.new t0)]; exact upd_same), .cons ⟨q, xs, rfl, SqT.of (by rw [res_of (S := NL H) (NL.new q0)]; exact S6 _ _ (by rw [e5]; exact upd_same)), hls.imp fun x y _ z => LstAt.mono SX (fun r v z => RowAt.mono SX z) z⟩ .nil⟩ ⟨⟨(by show (("both" : Str), fsOf "both") ∈ ftab; decide +kernel), (by show ("both" : Str) ≠ "edit"; decide +kernel), ?_, fun z => absurd (show ("both" : Str) = "leave" from z) (by decide +kernel)⟩, fun _ => by omega, fun l2 hl2 r hr => ?_⟩ ?_
          · show All2 (PG kt) (fsOf "both") _
            rw [show fsOf "both" = (["sides"] : List Str) by decide +kernel]
            refine .cons ⟨rfl, hl, fun l2 hl2 => ?_⟩ .nil
            have h1 := lsz_len (d := d + 1) (by omega) l2
            have h2 : lsz (d + 1) l2 ≤ (ls.map (lsz (d + 1))).sum := le_sum_mem (List.mem_map.mpr ⟨l2, hl2, rfl⟩)
            omega
          · have e0 : kids ("both", [Pt.sides ls]).2 = ls := by unfold kids; simp [kidsP]
            rw [e0] at hl2
            have := hgd l2 hl2 r hr
            rw [ef] at this
            show Good kt (d + 1) (innerLoop "both" il) r
            rw [show innerLoop "both" il = false by cases il <;> decide +kernel]
            exact this
          · have e0 : kids ([Pt.sides ls] : List (Pt (Row (d + 1)))) = ls := by unfold kids; simp [kidsP]
            show 1 + ((kids [Pt.sides ls]).map fun l => (l.map (rsz (d + 1))).sum).sum + rm' ≤ room + 1
            rw [e0]
            show 1 + (ls.map (lsz (d + 1))).sum + rm' ≤ room + 1
            omega
        refine ⟨_, rfl, b, c, 3, rfl, ga1.bg, by decide, fun n H2 hn hb2 ho2 => ?_⟩
        have ga2 := ga1.bs ho2.bs hb2
        have k2 : Kp (C2 b kd) H1 H2 := ho2.bs.k2
        have hD2 := DH ho2.bs
        have hls2 := hLL.imp fun x y _ z => LstAt.mono (rr_old (D := D) ga k2) (fun r v z => RowAt.mono (rr_old (D := D) ga k2) z) z
        refine ⟨rfl, _, rfl, ?_⟩
        refine ite2 (fun e9 => ?_) (fun e9 => ?_)
        · refine ⟨_, rfl, Or.inl ⟨rfl, _, SqL.of hD2⟩, _, rfl, _, rfl, _, rfl, _, _, rfl, rfl, ?_⟩
          have he2 : ((e : Int) + 1) = ((e + 1 : Nat) : Int) := by omega
          refine ⟨b, c, kd, kt, rm, e + 1, false, a, s', g, i, l, sl, w0, by show [_, _, V.int ((e : Int) + 1), _] = _; rw [he2], by omega, ga2, ok, wok, by omega, fun H3 L2 zs2 rows2 rm3 k3 ga3 nL2 hL2 hrows2 hg2 hsz2 _ => ?_⟩
          have Db : ¬ C2 b kd D := by
            obtain ⟨kvs, hb⟩ := ga.bg.dk
            rintro (rfl | rfl)
            · rw [hb] at nD; cases nD
            · rw [ga.ob] at nD; cases nD
          have hD3 := k3 _ _ hD2 Db
          refine ⟨D, _, _, rfl, rfl, hD3, (by show 2 < sizeLine; rw [sizeLine_eq]; decide), ?_⟩
          have SO : Same (RR H D H2) (RR H D H3) := rr_old ga k3
          have SN : Same (res (NL H2) H3) (RR H D H3) := rr_new (kp.trans k2) ga2 hD2
          have hL2' : (RR H D H3) L2 = some (.lst zs2) := SN _ _ (by rw [res_of (S := NL H2) (NL.new nL2)]; exact hL2)
          have k4 : Kp (C2 b kd) H (upd H3 D (.lst ([.ref L0, .ref L1] ++ [.ref L2]))) := fun x o hx nx => by
            rw [upd_ne (ne_of_none hx nD)]
            exact k3 x o (k2 x o (kp x o hx nx) nx) nx
          have hls4 : All2 (LstAt (RR H D (upd H3 D (.lst ([.ref L0, .ref L1] ++ [.ref L2])))) (RowAt K (RR H D (upd H3 D (.lst ([.ref L0, .ref L1] ++ [.ref L2])))) (d + 1))) ([l0, l1] ++ [rows2]) ([.ref L0, .ref L1] ++ [.ref L2]) :=
            (hls2.imp fun x y _ z => LstAt.mono (SO.trans rr_upd) (fun r v z => RowAt.mono (SO.trans rr_upd) z) z).app (All2.one ⟨L2, zs2, rfl, rr_upd _ _ hL2', hrows2.imp fun _ _ _ z => RowAt.mono (SN.trans rr_upd) z⟩)
          have hD4 : upd H3 D (.lst ([.ref L0, .ref L1] ++ [.ref L2])) D = some (.lst ([.ref L0, .ref L1] ++ [.ref L2])) := upd_same
          have ga4 := ga3.beside (o := .lst ([.ref L0, .ref L1] ++ [.ref L2])) ga nD
          generalize upd H3 D (.lst ([.ref L0, .ref L1] ++ [.ref L2])) = H4 at k4 hls4 hD4 ga4 ⊢
          refine ⟨_, rfl, D, _, rfl, .inl ⟨SqL.of hD4, fun q nq => ?_⟩⟩
          refine ⟨(by show 2 ≤ sizeLine; decide), fun t nt => ?_⟩
          refine close3 (rm' := rm3) (.inr rfl) hls4 (fun l2 h2 r hr => ?_) k4 ga4 ?_ nq rfl nt
          · rcases List.mem_append.mp h2 with h | h
            · exact hgd l2 h r hr
            · rw [ef]; rw [List.mem_singleton.mp h] at hr; exact hg2 r hr
          · rw [List.map_append, List.sum_append]
            simp only [List.map_cons, List.map_nil, List.sum_cons, List.sum_nil]
            omega
        · refine ⟨_, rfl, D, _, rfl, .inl ⟨SqL.of hD2, fun q nq => ?_⟩⟩
          refine ⟨(by show 2 ≤ sizeLine; decide), fun t nt => ?_⟩
          refine close3 (rm' := rm) (.inl rfl) hls2 hgd (kp.trans k2) ga2 ?_ nq rfl nt
          simp only [List.map_cons, List.map_nil, List.sum_cons, List.sum_nil]
          omega
      refine iteF' (decide_eq_false (fun z => p13 (by have := V.int.inj z; omega))) ?_
      have p14' : pick = 14 := by omega
      refine ⟨_, rfl, kd, _, rfl, kg_gates ga1, g, _, rfl, .inl (SqL.of ga1.hg), rfl, _, rfl, ?_⟩
      by_cases gn : kt.gates = []
      · refine iteT' (decide_eq_true (by rw [gn]; rfl)) ?_
        refine ⟨_, rfl, D, _, 0, .ref L0, rfl, rfl, SqL.of hD, by rfl, _, rfl, D, _, 1, .ref L1, rfl, rfl, SqL.of hD, by rfl, L0, L1, xs0, xs1, rfl, rfl, (LL0 kr).1, (LL0 kr).2, lsum, fun q nq => ?_⟩
        refine ⟨(by show 2 ≤ sizeLine; decide), fun t nt => ?_⟩
        exact close1 (w := "part") (zs := []) (fs := []) kr.k2 ga1 nq rfl nt rfl (by decide +kernel) (by decide +kernel) (by decide +kernel) (by decide +kernel) (by rw [p14']; cases il <;> decide +kernel) .nil
      have gp : 0 < kt.gates.length := List.length_pos_iff.mpr gn
      refine iteF' (decide_eq_false (fun z => by have := V.int.inj z; rw [List.length_map] at this; omega)) ?_
      refine ⟨_, rfl, b, c, 3, rfl, ga1.bg, by decide, fun n H2 hn hb2 ho2 => ?_⟩
      have ga2 := ga1.bs ho2.bs hb2
      refine ⟨rfl, _, rfl, ?_⟩
      refine ite2 (fun e9 => ?_) (fun e9 => ?_)
      all_goals
        refine ⟨_, rfl, _, rfl, kd, _, rfl, kg_gates ga2, b, c, g, _, rfl, ga2.bg, SqL.of ga2.hg, listNe gn, few wok.g.1 (by decide), fun v H3 hv hb3 ho3 => ?_⟩
        obtain ⟨z, hz, rfl⟩ := List.mem_map.mp hv
        have ga3 := ga2.bs ho3.bs hb3
        have k3 : Bs H1 H3 b := ho2.bs.trans ho3.bs
        have pgz : PG kt "gate" (.word z : Pt (Row (d + 1))) := pgw (wok.g.2 _ hz) (.inr (.inr (.inr (.inr (.inr (.inl ⟨rfl, hz⟩))))))
      · refine ⟨_, rfl, D, _, 0, .ref L0, rfl, rfl, SqL.of (DH k3), by rfl, _, rfl, D, _, 1, .ref L1, rfl, rfl, SqL.of (DH k3), by rfl, L0, L1, xs0, xs1, rfl, rfl, (LL0 k3).1, (LL0 k3).2, lsum, fun q nq => ?_⟩
        refine ⟨(by show 3 ≤ sizeLine; decide), fun t nt => ?_⟩
        exact close1 (w := "past") (zs := [z]) (fs := ["gate"]) k3.k2 ga3 nq rfl nt rfl (by decide +kernel) (by decide +kernel) (by decide +kernel) (by decide +kernel) (by rw [p14']; cases il <;> decide +kernel) (.cons pgz .nil)
      · refine ⟨_, rfl, D, _, 0, .ref L0, rfl, rfl, SqL.of (DH k3), by rfl, _, rfl, D, _, 1, .ref L1, rfl, rfl, SqL.of (DH k3), by rfl, (by show 4 ≤ sizeLine; decide), fun t nt => ?_⟩
        exact close2 (w := "gate") (zs := [z]) (fs := ["gate"]) k3.k2 ga3 nt rfl (by decide +kernel) (by decide +kernel) (by decide +kernel) (by decide +kernel) (by rw [p14']; cases il <;> decide +kernel) (.cons pgz .nil)
end
end OR

set_option Elab.async false
set_option maxRecDepth 100000
set_option maxHeartbeats 8000000
set_option linter.all false
namespace OR
open PySem PySem.Spec PyProof.Rows L2 TS2
theorem row_at_words {K : PySem.W.Frag} {Hx : Hp} {t : Addr} {w : Str} {ps : List Str} {d : Nat} (e : Hx t = some (.tup (.str w :: ps.map V.str))) : RowAt K Hx (d + 1) (w, ps.map Pt.word) (.ref t) := by
  refine ⟨t, ps.map V.str, rfl, SqT.of e, ?_⟩
  clear e
  induction ps with
  | nil => exact .nil
  | cons z ps ih => exact .cons rfl ih
section
variable {K : PySem.W.Frag} {H H3 H10 : Hp} {b c kd : Addr} {kt : Kit} {room : Int} {a s g i l sl w0 : Addr}
theorem rr_move {D N : Addr} {o' : HO} (ga : GenAt K H b c kd kt room a s g i l sl w0) (kp : Kp (C2 b kd) H3 H10) (nN : H10 N = none) : Same (RR H D H3) (RR H N (upd H10 N o')) := same_res fun x o n e => by
  have h : H10 x = some o := kp x o e (by
    obtain ⟨kvs, hb⟩ := ga.bg.dk
    rintro (rfl | rfl)
    · exact n.1.no hb rfl
    · exact n.1.no ga.ob rfl)
  have ne : x ≠ N := ne_of_none h nN
  exact ⟨⟨n.1, ne⟩, by rw [upd_ne ne]; exact h⟩
end
theorem lsz_app2 {d : Nat} {rows : List (Row (d + 1))} {r1 r2 : Row (d + 1)} (h1 : rsz (d + 1) r1 = 1) (h2 : rsz (d + 1) r2 = 1) : lsz (d + 1) (rows ++ [r1, r2]) = lsz (d + 1) rows + 2 := by
  unfold lsz
  rw [List.map_append, List.sum_append]
  simp only [List.map_cons, List.map_nil, List.sum_cons, List.sum_nil, h1, h2]
  rfl
section
variable {P : Program} {w : World} {K : PySem.W.Frag} {mg : Str → Option Value} {base : Heap}
theorem ok_list {k0 d : Nat} {f : Addr} {fd : FuncData} (F : FnP K "_law_list" "_law_list" s__law_list f fd) (T : Tx w K mg) (h4 : 4 ≤ k0) (G__law_draw : Def P w K mg base CX0 1 "_law_draw" p__law_draw spDraw) (G__law_one : Def P w K mg base CX0 2 "_law_one" p__law_one (spOne K))
    (G__law_start_row : Def P w K mg base CX0 3 "_law_start_row" p__law_start_row (spStart K)) (G__law_plain_row : Def P w K mg base CX0 4 "_law_plain_row" p__law_plain_row (spPlain K d)) (G__law_great_row : Def P w K mg base CX0 k0 "_law_great_row" p__law_great_row (spGreat K d)) : FnOk P w K mg base CX0 (k0 + 1) f fd p__law_list (spList K (d + 1)) := by
  refine F.ok sc__law_list (fun vs H Q E h => ?_) (fun cdv A outer s H vs Q E hr h => ?_)
  · obtain ⟨b, c, kd, kt, room, e, il, _, _, _, _, _, _, _, rfl, _⟩ := h
    rfl
  · obtain ⟨b, c, kd, kt, room, e, il, a, s', g, i, l, sl, w0, rfl, he, ga, ok, wok, r14, k⟩ := h
    have hu := hu_of hr
    refine ⟨_, PSs.nox (pss_cons (ps_set (i := 4) sc__law_list.nd rfl (.inl rfl) (pe_lst pa_nil))
      (pss_cons (ps_for PassesOwn.never rfl (pi_range1 (by rfl) T.b_range (pa_cons (pe_op op_add (pe_fn G__law_draw (hr.mono (by omega)) (by rfl) pass0 (pa_cons (pv 0) (pa_cons pe_int pa_nil))) (pe_op op_mul pe_int (pe_callTy call_int1 (by rfl) T.b_int (by decide +kernel) (pa_cons (pe_cmpR op_eq (pv 2) pe_int (nomark _)) pa_nil)))) pa_nil)) (pg_name (i := 5) sc__law_list.nd rfl (.inl rfl)) (pss_cons (ps_set (i := 6) sc__law_list.nd rfl (.inl rfl) (pe_fn G__law_draw (hr.mono (by omega)) (by rfl) pass0 (pa_cons (pv 0) (pa_cons pe_int pa_nil))))
      (pss_one (ps_if (PW.pt (pw_and (pt_cmpR op_ge (pe_dget hu (pv 1) pe_str (fun _ _ => rfl)) pe_int (nomark _)) (pw_and1 (pt_cmpR op_lt (pv 6) pe_int (nomark _))))) (pss_cons (ps_dput hu (pv 1) pe_str (pe_op op_sub (pe_dget hu (pv 1) pe_str (fun _ _ => rfl)) pe_int) rfl)
      (pss_cons (ps_set (i := 7) sc__law_list.nd rfl (.inl rfl) (pe_fn G__law_one (hr.mono (by omega)) (by rfl) pass0 (pa_cons (pv 0) (pa_cons (pe_dget hu (pv 1) pe_str (fun _ _ => rfl)) pa_nil))))
      (pss_one (ps_set (i := 4) sc__law_list.nd rfl (.inl rfl) (pe_op op_cat (pv 4) (pe_lst (pa_cons (pe_fn G__law_start_row (hr.mono (by omega)) (by rfl) pass0 (pa_cons (pv 0) (pa_cons (pv 1) (pa_cons (pv 7) pa_nil)))) (pa_cons (pe_tup (pa_cons pe_str (pa_cons (pv 7) (pa_cons (pe_fn G__law_one (hr.mono (by omega)) (by rfl) pass0 (pa_cons (pv 0) (pa_cons (pe_dget hu (pv 1) pe_str (fun _ _ => rfl)) pa_nil))) pa_nil)))) pa_nil)))))))) (pss_one (ps_if (pt_cmpR op_ge (pe_dget hu (pv 1) pe_str (fun _ _ => rfl)) pe_int (nomark _)) (pss_cons (ps_dput hu (pv 1) pe_str (pe_op op_sub (pe_dget hu (pv 1) pe_str (fun _ _ => rfl)) pe_int) rfl)
      (pss_one (ps_if (PW.pt (pw_and (pt_chain op_le op_le pe_int (pv 6) pe_int) (pw_and1 (pt_cmpR op_lt (pv 2) (pe_dget hu (pv 1) pe_str (fun _ _ => rfl)) (nomark _))))) (pss_one (ps_expr (pe_bm PySem.F.plainAttrs_list PySem.F.slot_list_append PySem.F.type_list_append mt_append (pv 4) (pa_cons (pe_fn G__law_great_row (hr.mono (by omega)) (by rfl) pass0 (pa_cons (pv 0) (pa_cons (pv 1) (pa_cons (pv 6) (pa_cons (pv 2) (pa_cons (pv 3) pa_nil)))))) pa_nil)))) (pss_one (ps_expr (pe_bm PySem.F.plainAttrs_list PySem.F.slot_list_append PySem.F.type_list_append mt_append (pv 4) (pa_cons (pe_fn G__law_plain_row (hr.mono (by omega)) (by rfl) pass0 (pa_cons (pv 0) (pa_cons (pv 1) (pa_cons (pv 6) (pa_cons (pv 3) pa_nil))))) pa_nil))))))) pss_nil))))))
      (pss_one (ps_ret (pv 4))))), ?_⟩
    refine ⟨by show 0 ≤ sizeLine; decide, fun D0 nD0 => ?_⟩
    have ga0 := ga.same (Same.new (o := .lst []) nD0)
    have hD0 : upd H D0 (.lst []) D0 = some (.lst []) := upd_same
    have kp0 : Kp (C2 b kd) H (upd H D0 (.lst [])) := Kp.of (Same.new nD0)
    generalize upd H D0 (.lst []) = H1 at ga0 hD0 kp0 ⊢
    refine ⟨_, rfl, b, c, 3, rfl, ga0.bg, by decide, fun n H2 hn hb2 ho2 => ?_⟩
    have ga2 := ga0.bs ho2.bs hb2
    have kp2 : Kp (C2 b kd) H H2 := kp0.trans ho2.bs.k2
    have nb : ∀ {D : Addr}, H D = none → ¬ C2 b kd D := fun {D} nD => by
      obtain ⟨kvs, hb⟩ := ga.bg.dk
      rintro (rfl | rfl)
      · rw [hb] at nD; cases nD
      · rw [ga.ob] at nD; cases nD
    have hD2 : H2 D0 = some (.lst []) := ho2.bs.k2 _ _ hD0 (nb nD0)
    refine ⟨_, rfl, rfl, .inr ⟨_, rfl, ?_⟩⟩
    have hcm : ∃ cnt : Nat, (n : Int) + 2 * (if decide (V.int (e : Int) = V.int 1) = true then (1 : Int) else 0) = (cnt : Int) ∧ cnt ≤ 4 := by
      split
      · exact ⟨n + 2, by omega, by omega⟩
      · exact ⟨n, by omega, by omega⟩
    obtain ⟨cnt, hcnt, c10⟩ := hcm
    generalize decide (V.int (e : Int) = V.int 1) = be at hcnt ⊢
    refine ⟨_, _, rfl, rfl, .inl ⟨by decide, by cases be <;> decide⟩, ?_⟩
    refine ⟨_, _, rfl, rfl, ?_⟩
    refine ⟨(cnt : Int), (by show [V.int ((n : Int) + 2 * _)] = _; rw [hcnt]), by omega, by omega, ?_⟩
    let INV : Nat → L2.St → Hp → Prop := fun i2 σ H' => ∃ (D : Addr) (xs : List V) (rows : List (Row (d + 1))) (rm : Nat) (v5 v6 v7 : Option V), σ = [some (.ref b), some (.ref kd), some (.int e), some (.bl il), some (.ref D), v5, v6, v7] ∧ H D = none ∧ H' D = some (.lst xs) ∧ All2 (RowAt K (RR H D H') (d + 1)) rows xs ∧ (∀ r ∈ rows, Good kt (d + 1) il r) ∧ Kp (C2 b kd) H H' ∧ GenAt K H' b c kd kt rm a s' g i l sl w0 ∧ lsz (d + 1) rows + rm ≤ room ∧ rows.length ≤ 2 * i2
    refine for_range (lo := 0) (n := cnt) (fun i2 σ H' => INV i2 σ H')
      ⟨D0, [], [], room, _, _, _, rfl, nD0, hD2, .nil, (fun r hr => by cases hr), kp2, ga2, by simp [lsz], Nat.zero_le _⟩ (fun i2 σ H3 hi q => ?_) (fun σ H3 q => ?_)
    · obtain ⟨D, xs, rows, rm, v5, v6, v7, rfl, nD, hD, hrows, hg, kp, ga3, hsz, lr8⟩ := q
      refine ⟨_, rfl, b, c, 16, rfl, ga3.bg, by decide, fun pick H4 hp hb4 ho4 => ?_⟩
      have ga4 := ga3.bs ho4.bs hb4
      have hp16 : pick < 16 := by omega
      have listNe : ∀ {zs : List Str}, zs ≠ [] → zs.map V.str ≠ [] := fun h z => h (List.map_eq_nil_iff.mp z)
      have few : ∀ {zs : List Str} {n : Nat}, zs.length ≤ n → n ≤ 100 → (zs.map V.str).length < 1000000 := fun h h2 => by rw [List.length_map]; omega
      refine ⟨_, rfl, kd, _, rfl, kg_room ga4, _, _, rfl, rfl, _, rfl, ?_⟩
      by_cases r2 : 2 ≤ rm
      · refine iteT' (decide_eq_true (by omega)) ?_
        refine ⟨_, rfl, _, _, rfl, rfl, _, rfl, ?_⟩
        by_cases p4 : pick < 4
        · refine iteT' (decide_eq_true (by omega)) ?_
          refine ⟨_, rfl, kd, _, rfl, kg_room ga4, _, _, rfl, rfl, _, rfl, kd, _, rfl, kp_room ga4 ((rm : Int) - 2), ?_⟩
          have er : (rm : Int) - 2 = ((rm - 2 : Nat) : Int) := by omega
          rw [er]
          have ga5 := ga4.room ((rm - 2 : Nat) : Int)
          have k5 : Kp (C2 b kd) H4 (upd H4 kd (.dK (kitL a s' ((rm - 2 : Nat) : Int) g i l sl w0))) := fun x o hx n => by rw [upd_ne (fun z => n (.inr z))]; exact hx
          generalize upd H4 kd (.dK (kitL a s' ((rm - 2 : Nat) : Int) g i l sl w0)) = H5 at ga5 k5 ⊢
          refine ⟨_, rfl, _, rfl, kd, _, rfl, kg_labels ga5, b, c, l, _, rfl, ga5.bg, SqL.of ga5.hl, listNe wok.l.1, few wok.l.2.1 (by decide), fun v H6 hv hb6 ho6 => ?_⟩
          obtain ⟨lab, hlab, rfl⟩ := List.mem_map.mp hv
          have ga6 := ga5.bs ho6.bs hb6
          have wl := wok.l.2.2.1 lab hlab
          refine ⟨_, rfl, _, rfl, _, rfl, _, rfl, b, c, kd, kt, ((rm - 2 : Nat) : Int), lab, _, _, _, _, _, _, _, rfl, ga6, ok, wok, fun H7 t w ps k7 ga7 nt ht sh => ?_⟩
          refine ⟨_, rfl, _, rfl, _, rfl, kd, _, rfl, kg_slots ga7, b, c, sl, _, rfl, ga7.bg, SqL.of ga7.hsl, listNe wok.sl.1, few wok.sl.2.1 (by decide), fun v2 H8 hv2 hb8 ho8 => ?_⟩
          obtain ⟨slot, hslot, rfl⟩ := List.mem_map.mp hv2
          have ga8 := ga7.bs ho8.bs hb8
          have ws := wok.sl.2.2 slot hslot
          refine ⟨by show 3 ≤ sizeLine; decide, fun q nq => ?_⟩
          have S9 : Same H8 (upd H8 q (.tup [.str "await", .str lab, .str slot])) := Same.new nq
          have hq9 : upd H8 q (.tup [.str "await", .str lab, .str slot]) q = some (.tup [.str "await", .str lab, .str slot]) := upd_same
          generalize upd H8 q (.tup [.str "await", .str lab, .str slot]) = H9 at S9 hq9 ⊢
          refine ⟨by show 2 ≤ sizeLine; decide, fun M nM => ?_⟩
          have S10 : Same H9 (upd H9 M (.lst [.ref t, .ref q])) := Same.new nM
          have hM : upd H9 M (.lst [.ref t, .ref q]) M = some (.lst [.ref t, .ref q]) := upd_same
          generalize upd H9 M (.lst [.ref t, .ref q]) = H10 at S10 hM ⊢
          have k6 : Kp (C2 b kd) H3 H6 := ho4.bs.k2.trans (k5.trans ho6.bs.k2)
          have k8 : Kp (C2 b kd) H3 H8 := k6.trans (k7.trans ho8.bs.k2)
          have k10 : Kp (C2 b kd) H3 H10 := k8.trans (Kp.of (S9.trans S10))
          have ga10 := ga8.same (S9.trans S10)
          have hD10 : H10 D = some (.lst xs) := k10 _ _ hD (nb nD)
          have kfree : ∀ {H2 : Hp} {x : Addr} {z : Int}, Kp (C2 b kd) H3 H2 → GenAt K H2 b c kd kt z a s' g i l sl w0 → H2 x = none → H x = none := fun {H2 x z} k g n => by
            cases q : H x with
            | none => rfl
            | some o =>
              obtain ⟨kvs, hb⟩ := g.bg.dk
              rw [(kp.trans k) x o q (by rintro (rfl | rfl); rw [hb] at n; cases n; rw [g.ob] at n; cases n)] at n
              cases n
          have nbt : ¬ C2 b kd t := nb (kfree k6 ga6 nt)
          have ht10 : H10 t = some (.tup (.str w :: ps.map V.str)) := (S9.trans S10) _ _ (ho8.bs.k2 _ _ ht nbt)
          have hq10 := S10 _ _ hq9
          have lx := hrows.len
          have lr := lsz_len (d := d + 1) (by omega) rows
          refine ⟨D, M, xs, [.ref t, .ref q], rfl, rfl, hD10, hM, ?_, fun N nN => ?_⟩
          · rw [sizeLine_eq]
            show xs.length + 2 ≤ _
            omega
          have t0 : H t = none := kfree k6 ga6 nt
          have q0 : H q = none := kfree k8 ga8 nq
          have N0 : H N = none := kfree k10 ga10 nN
          have tN : t ≠ N := ne_of_none ht10 nN
          have qN : q ≠ N := ne_of_none hq10 nN
          have S11 : Same H10 (upd H10 N (.lst (xs ++ [.ref t, .ref q]))) := Same.new nN
          have SM : Same (RR H D H3) (RR H N (upd H10 N (.lst (xs ++ [.ref t, .ref q])))) := rr_move ga k10 nN
          have rt : (RR H N (upd H10 N (.lst (xs ++ [.ref t, .ref q])))) t = some (.tup (.str w :: ps.map V.str)) := by
            unfold RR
            rw [res_of (S := fun x => NL H x ∧ x ≠ N) ⟨NL.new t0, tN⟩]
            exact S11 _ _ ht10
          have rq : (RR H N (upd H10 N (.lst (xs ++ [.ref t, .ref q])))) q = some (.tup [.str "await", .str lab, .str slot]) := by
            unfold RR
            rw [res_of (S := fun x => NL H x ∧ x ≠ N) ⟨NL.new q0, qN⟩]
            exact S11 _ _ hq10
          obtain ⟨gd1, rz1⟩ : Good kt (d + 1) il (w, ps.map Pt.word) ∧ rsz (d + 1) (w, ps.map Pt.word) = 1 := by
            rcases sh with ⟨rfl, rfl⟩ | ⟨rfl, a2, ha2, rfl⟩
            · exact leaf_words (kt := kt) (d := d) (il := il) (w := "timer") (ps := [lab]) (fs := ["label"]) (by decide +kernel) (by decide +kernel) (by decide +kernel) (fun z => absurd z (by decide +kernel)) (.cons (pgw wl (.inr (.inr (.inr (.inr (.inl ⟨rfl, hlab⟩)))))) .nil)
            · exact leaf_words (kt := kt) (d := d) (il := il) (w := "ask") (ps := [a2, lab]) (fs := ["ask", "label"]) (by decide +kernel) (by decide +kernel) (by decide +kernel) (fun z => absurd z (by decide +kernel)) (.cons (pgw (wok.a.2.2 _ ha2) (.inl ⟨rfl, ha2⟩)) (.cons (pgw wl (.inr (.inr (.inr (.inr (.inl ⟨rfl, hlab⟩)))))) .nil))
          obtain ⟨gd2, rz2⟩ := leaf_words (kt := kt) (d := d) (il := il) (w := "await") (ps := [lab, slot]) (fs := ["label", "slot"]) (by decide +kernel) (by decide +kernel) (by decide +kernel) (fun z => absurd z (by decide +kernel)) (.cons (pgw wl (.inr (.inr (.inr (.inr (.inl ⟨rfl, hlab⟩)))))) (.cons (pgw ws (.inr (.inr (.inl ⟨rfl, hslot⟩)))) .nil))
          refine ⟨N, xs ++ [.ref t, .ref q], rows ++ ([((w, ps.map Pt.word) : Row (d + 1)), (("await", ([lab, slot] : List Str).map Pt.word) : Row (d + 1))] : List (Row (d + 1))), rm - 2, _, _, _, rfl, N0, upd_same, ?_, ?_, kp.trans (k10.trans (Kp.of S11)), ga10.same S11, ?_, by rw [List.length_append]; show _ + 2 ≤ _; omega⟩
          · exact (hrows.imp fun _ _ _ z => RowAt.mono SM z).app (.cons (row_at_words rt) (.cons (row_at_words (w := "await") (ps := [lab, slot]) rq) .nil))
          · intro r hr
            rcases List.mem_append.mp hr with h | h
            · exact hg r h
            · rcases List.mem_cons.mp h with rfl | h
              · exact gd1
              · rw [List.mem_singleton.mp h]; exact gd2
          · have e2 := lsz_app2 (rows := rows) rz1 rz2
            show lsz (d + 1) (rows ++ ([((w, ps.map Pt.word) : Row (d + 1)), (("await", ([lab, slot] : List Str).map Pt.word) : Row (d + 1))] : List (Row (d + 1)))) + (rm - 2) ≤ room
            rw [e2]
            omega
        · refine iteF' (decide_eq_false (by omega)) ?_
          refine ⟨_, rfl, kd, _, rfl, kg_room ga4, _, _, rfl, rfl, _, rfl, ?_⟩
          by_cases r1 : 1 ≤ rm
          · refine iteT' (decide_eq_true (by omega)) ?_
            refine ⟨_, rfl, kd, _, rfl, kg_room ga4, _, _, rfl, rfl, _, rfl, kd, _, rfl, kp_room ga4 ((rm : Int) - 1), ?_⟩
            have er : (rm : Int) - 1 = ((rm - 1 : Nat) : Int) := by omega
            rw [er]
            have ga5 := ga4.room ((rm - 1 : Nat) : Int)
            have k5 : Kp (C2 b kd) H4 (upd H4 kd (.dK (kitL a s' ((rm - 1 : Nat) : Int) g i l sl w0))) := fun x o hx n => by rw [upd_ne (fun z => n (.inr z))]; exact hx
            generalize upd H4 kd (.dK (kitL a s' ((rm - 1 : Nat) : Int) g i l sl w0)) = H5 at ga5 k5 ⊢
            have k35 : Kp (C2 b kd) H3 H5 := ho4.bs.k2.trans k5
            have hD5 : H5 D = some (.lst xs) := k35 _ _ hD (nb nD)
            have lx : xs.length < sizeLine := by
              have h1 := hrows.len
              have h2 := lsz_len (d := d + 1) (by omega) rows
              rw [sizeLine_eq]
              omega
            have fin : ∀ {H6 : Hp} {t : Addr} {r : Row (d + 1)} {rm6 : Nat} {v5 v6 v7 : Option V}, Kp (C2 b kd) H5 H6 → GenAt K H6 b c kd kt rm6 a s' g i l sl w0 → RowAt K (res (NL H5) H6) (d + 1) r (.ref t) → Good kt (d + 1) il r → rsz (d + 1) r + rm6 ≤ rm → INV (i2 + 1) [some (.ref b), some (.ref kd), some (.int e), some (.bl il), some (.ref D), v5, v6, v7] (upd H6 D (.lst (xs ++ [.ref t]))) := by
              intro H6 t r rm6 u5 u6 u7 k6 ga6 hr6 hg6 hs6
              have k36 := k35.trans k6
              refine ⟨D, xs ++ [.ref t], rows ++ [r], rm6, _, _, _, rfl, nD, upd_same, ?_, ?_, ?_, ga6.beside ga nD, ?_, by rw [List.length_append]; show _ + 1 ≤ _; omega⟩
              · exact (hrows.imp fun _ _ _ z => RowAt.mono ((rr_old ga k36).trans rr_upd) z).app (All2.one (RowAt.mono ((rr_new (kp.trans k35) ga5 hD5).trans rr_upd) hr6))
              · intro r' hr'
                rcases List.mem_append.mp hr' with h | h
                · exact hg r' h
                · rw [List.mem_singleton.mp h]; exact hg6
              · intro x o hx nx
                rw [upd_ne (ne_of_none hx nD)]
                exact k36 x o (kp x o hx nx) nx
              · unfold lsz
                rw [List.map_append, List.sum_append]
                simp only [List.map_cons, List.map_nil, List.sum_cons, List.sum_nil]
                unfold lsz at hsz
                omega
            refine ⟨_, rfl, _, _, rfl, rfl, _, rfl, ?_⟩
            by_cases p11 : 11 ≤ pick
            · refine iteT' (decide_eq_true (by omega)) ?_
              refine ⟨_, _, rfl, rfl, ?_⟩
              refine ⟨_, rfl, ?_⟩
              by_cases p14 : pick ≤ 14
              · refine iteT' (decide_eq_true (by omega)) ?_
                refine ⟨_, rfl, _, rfl, kd, _, rfl, kg_deepest ga5, _, _, rfl, rfl, _, rfl, ?_⟩
                by_cases d1 : 1 ≤ d
                · refine iteT' (decide_eq_true (by omega)) ?_
                  refine ⟨_, rfl, Or.inl ⟨rfl, _, SqL.of hD5⟩, _, rfl, _, rfl, _, rfl, _, rfl, _, rfl, ?_⟩
                  refine ⟨b, c, kd, kt, rm - 1, e, pick, il, a, s', g, i, l, sl, w0, rfl, he, d1, p11, p14, ga5, ok, wok, by omega, fun H6 t r rm6 k6 ga6 hr6 hg6 hs6 => ?_⟩
                  refine ⟨D, _, _, rfl, rfl, k6 _ _ hD5 (nb nD), lx, ?_⟩
                  exact fin k6 ga6 hr6 hg6 (by omega)
                · refine iteF' (decide_eq_false (by omega)) ?_
                  refine ⟨_, rfl, Or.inl ⟨rfl, _, SqL.of hD5⟩, _, rfl, _, rfl, _, rfl, _, rfl, ?_⟩
                  refine ⟨b, c, kd, kt, ((rm - 1 : Nat) : Int), pick, il, a, s', g, i, l, sl, w0, rfl, ga5, ok, wok, fun H6 t r k6 ga6 hr6 hg6 hs6 => ?_⟩
                  refine ⟨D, _, _, rfl, rfl, k6 _ _ hD5 (nb nD), lx, ?_⟩
                  exact fin k6 ga6 hr6 hg6 (by omega)
              · refine iteF' (decide_eq_false (by omega)) ?_
                refine iteF ?_
                refine ⟨_, rfl, Or.inl ⟨rfl, _, SqL.of hD5⟩, _, rfl, _, rfl, _, rfl, _, rfl, ?_⟩
                refine ⟨b, c, kd, kt, ((rm - 1 : Nat) : Int), pick, il, a, s', g, i, l, sl, w0, rfl, ga5, ok, wok, fun H6 t r k6 ga6 hr6 hg6 hs6 => ?_⟩
                refine ⟨D, _, _, rfl, rfl, k6 _ _ hD5 (nb nD), lx, ?_⟩
                exact fin k6 ga6 hr6 hg6 (by omega)
            · refine iteF' (decide_eq_false (by omega)) ?_
              refine ⟨_, rfl, ?_⟩
              refine iteF ?_
              refine iteF ?_
              refine ⟨_, rfl, Or.inl ⟨rfl, _, SqL.of hD5⟩, _, rfl, _, rfl, _, rfl, _, rfl, ?_⟩
              refine ⟨b, c, kd, kt, ((rm - 1 : Nat) : Int), pick, il, a, s', g, i, l, sl, w0, rfl, ga5, ok, wok, fun H6 t r k6 ga6 hr6 hg6 hs6 => ?_⟩
              refine ⟨D, _, _, rfl, rfl, k6 _ _ hD5 (nb nD), lx, ?_⟩
              exact fin k6 ga6 hr6 hg6 (by omega)
          · refine iteF' (decide_eq_false (by omega)) ?_
            exact ⟨D, xs, rows, rm, _, _, _, rfl, nD, ho4.bs.k2 _ _ hD (nb nD), hrows.imp fun _ _ _ z => RowAt.mono (rr_old ga ho4.bs.k2) z, hg, kp.trans ho4.bs.k2, ga4, hsz, by omega⟩
      · refine iteF' (decide_eq_false (by omega)) ?_
        refine iteF ?_
        refine ⟨_, rfl, kd, _, rfl, kg_room ga4, _, _, rfl, rfl, _, rfl, ?_⟩
        by_cases r1 : 1 ≤ rm
        · refine iteT' (decide_eq_true (by omega)) ?_
          refine ⟨_, rfl, kd, _, rfl, kg_room ga4, _, _, rfl, rfl, _, rfl, kd, _, rfl, kp_room ga4 ((rm : Int) - 1), ?_⟩
          have er : (rm : Int) - 1 = ((rm - 1 : Nat) : Int) := by omega
          rw [er]
          have ga5 := ga4.room ((rm - 1 : Nat) : Int)
          have k5 : Kp (C2 b kd) H4 (upd H4 kd (.dK (kitL a s' ((rm - 1 : Nat) : Int) g i l sl w0))) := fun x o hx n => by rw [upd_ne (fun z => n (.inr z))]; exact hx
          generalize upd H4 kd (.dK (kitL a s' ((rm - 1 : Nat) : Int) g i l sl w0)) = H5 at ga5 k5 ⊢
          have k35 : Kp (C2 b kd) H3 H5 := ho4.bs.k2.trans k5
          have hD5 : H5 D = some (.lst xs) := k35 _ _ hD (nb nD)
          have lx : xs.length < sizeLine := by
            have h1 := hrows.len
            have h2 := lsz_len (d := d + 1) (by omega) rows
            rw [sizeLine_eq]
            omega
          have fin : ∀ {H6 : Hp} {t : Addr} {r : Row (d + 1)} {rm6 : Nat} {v5 v6 v7 : Option V}, Kp (C2 b kd) H5 H6 → GenAt K H6 b c kd kt rm6 a s' g i l sl w0 → RowAt K (res (NL H5) H6) (d + 1) r (.ref t) → Good kt (d + 1) il r → rsz (d + 1) r + rm6 ≤ rm → INV (i2 + 1) [some (.ref b), some (.ref kd), some (.int e), some (.bl il), some (.ref D), v5, v6, v7] (upd H6 D (.lst (xs ++ [.ref t]))) := by
            intro H6 t r rm6 u5 u6 u7 k6 ga6 hr6 hg6 hs6
            have k36 := k35.trans k6
            refine ⟨D, xs ++ [.ref t], rows ++ [r], rm6, _, _, _, rfl, nD, upd_same, ?_, ?_, ?_, ga6.beside ga nD, ?_, by rw [List.length_append]; show _ + 1 ≤ _; omega⟩
            · exact (hrows.imp fun _ _ _ z => RowAt.mono ((rr_old ga k36).trans rr_upd) z).app (All2.one (RowAt.mono ((rr_new (kp.trans k35) ga5 hD5).trans rr_upd) hr6))
            · intro r' hr'
              rcases List.mem_append.mp hr' with h | h
              · exact hg r' h
              · rw [List.mem_singleton.mp h]; exact hg6
            · intro x o hx nx
              rw [upd_ne (ne_of_none hx nD)]
              exact k36 x o (kp x o hx nx) nx
            · unfold lsz
              rw [List.map_append, List.sum_append]
              simp only [List.map_cons, List.map_nil, List.sum_cons, List.sum_nil]
              unfold lsz at hsz
              omega
          refine ⟨_, rfl, _, _, rfl, rfl, _, rfl, ?_⟩
          by_cases p11 : 11 ≤ pick
          · refine iteT' (decide_eq_true (by omega)) ?_
            refine ⟨_, _, rfl, rfl, ?_⟩
            refine ⟨_, rfl, ?_⟩
            by_cases p14 : pick ≤ 14
            · refine iteT' (decide_eq_true (by omega)) ?_
              refine ⟨_, rfl, _, rfl, kd, _, rfl, kg_deepest ga5, _, _, rfl, rfl, _, rfl, ?_⟩
              by_cases d1 : 1 ≤ d
              · refine iteT' (decide_eq_true (by omega)) ?_
                refine ⟨_, rfl, Or.inl ⟨rfl, _, SqL.of hD5⟩, _, rfl, _, rfl, _, rfl, _, rfl, _, rfl, ?_⟩
                refine ⟨b, c, kd, kt, rm - 1, e, pick, il, a, s', g, i, l, sl, w0, rfl, he, d1, p11, p14, ga5, ok, wok, by omega, fun H6 t r rm6 k6 ga6 hr6 hg6 hs6 => ?_⟩
                refine ⟨D, _, _, rfl, rfl, k6 _ _ hD5 (nb nD), lx, ?_⟩
                exact fin k6 ga6 hr6 hg6 (by omega)
              · refine iteF' (decide_eq_false (by omega)) ?_
                refine ⟨_, rfl, Or.inl ⟨rfl, _, SqL.of hD5⟩, _, rfl, _, rfl, _, rfl, _, rfl, ?_⟩
                refine ⟨b, c, kd, kt, ((rm - 1 : Nat) : Int), pick, il, a, s', g, i, l, sl, w0, rfl, ga5, ok, wok, fun H6 t r k6 ga6 hr6 hg6 hs6 => ?_⟩
                refine ⟨D, _, _, rfl, rfl, k6 _ _ hD5 (nb nD), lx, ?_⟩
                exact fin k6 ga6 hr6 hg6 (by omega)
            · refine iteF' (decide_eq_false (by omega)) ?_
              refine iteF ?_
              refine ⟨_, rfl, Or.inl ⟨rfl, _, SqL.of hD5⟩, _, rfl, _, rfl, _, rfl, _, rfl, ?_⟩
              refine ⟨b, c, kd, kt, ((rm - 1 : Nat) : Int), pick, il, a, s', g, i, l, sl, w0, rfl, ga5, ok, wok, fun H6 t r k6 ga6 hr6 hg6 hs6 => ?_⟩
              refine ⟨D, _, _, rfl, rfl, k6 _ _ hD5 (nb nD), lx, ?_⟩
              exact fin k6 ga6 hr6 hg6 (by omega)
          · refine iteF' (decide_eq_false (by omega)) ?_
            refine ⟨_, rfl, ?_⟩
            refine iteF ?_
            refine iteF ?_
            refine ⟨_, rfl, Or.inl ⟨rfl, _, SqL.of hD5⟩, _, rfl, _, rfl, _, rfl, _, rfl, ?_⟩
            refine ⟨b, c, kd, kt, ((rm - 1 : Nat) : Int), pick, il, a, s', g, i, l, sl, w0, rfl, ga5, ok, wok, fun H6 t r k6 ga6 hr6 hg6 hs6 => ?_⟩
            refine ⟨D, _, _, rfl, rfl, k6 _ _ hD5 (nb nD), lx, ?_⟩
            exact fin k6 ga6 hr6 hg6 (by omega)
        · refine iteF' (decide_eq_false (by omega)) ?_
          exact ⟨D, xs, rows, rm, _, _, _, rfl, nD, ho4.bs.k2 _ _ hD (nb nD), hrows.imp fun _ _ _ z => RowAt.mono (rr_old ga ho4.bs.k2) z, hg, kp.trans ho4.bs.k2, ga4, hsz, by omega⟩
    · obtain ⟨D, xs, rows, rm, v5, v6, v7, rfl, nD, hD, hrows, hg, kp, ga3, hsz, lr8⟩ := q
      refine ⟨_, rfl, ?_⟩
      exact k H3 D xs rows rm kp ga3 nD hD (hrows.imp fun _ _ _ z => RowAt.mono rr_nl z) hg hsz (by omega)
end
end OR

set_option Elab.async false
set_option maxRecDepth 100000
set_option maxHeartbeats 8000000
set_option linter.all false
namespace OR
open PySem PySem.Spec PyProof.Rows L2 TS2
/-- what stands while a kit is made: the bag, three dicts, and things that are not written any more -/
structure Mem (H Hc : Hp) (b c kd a s : Addr) (L ka ks : List (Key × V)) (m : List (Addr × HO)) : Prop where
  bg : Bg Hc b c
  bs : Bs H Hc b
  bg0 : Bg H b c
  kt : Hc kd = some (.dK L)
  ha : Hc a = some (.dK ka)
  hs : Hc s = some (.dK ks)
  f1 : H kd = none
  f2 : H a = none
  f3 : H s = none
  ne : kd ≠ a ∧ kd ≠ s ∧ a ≠ s
  mm : ∀ x ∈ m, Hc x.1 = some x.2 ∧ H x.1 = none ∧ x.1 ≠ kd ∧ x.1 ≠ a ∧ x.1 ≠ s
section
variable {H Hc H2 : Hp} {b c kd a s : Addr} {L L' ka ks ka' ks' : List (Key × V)} {m m' : List (Addr × HO)} {q : Addr} {o : HO}
theorem Mem.nb (h : Mem H Hc b c kd a s L ka ks m) {x : Addr} (n : H x = none) : x ≠ b ∧ x ≠ c := Bg.tr h.bg0 n
theorem Mem.call (h : Mem H Hc b c kd a s L ka ks m) (e : Bs Hc H2 b) (g : Bg H2 b c) : Mem H H2 b c kd a s L ka ks m :=
  ⟨g, h.bs.trans e, h.bg0, e _ _ h.kt (h.nb h.f1).1, e _ _ h.ha (h.nb h.f2).1, e _ _ h.hs (h.nb h.f3).1, h.f1, h.f2, h.f3, h.ne, fun x hx => by
    obtain ⟨p, q, r⟩ := h.mm x hx
    exact ⟨e _ _ p (h.nb q).1, q, r⟩⟩
theorem Mem.free (h : Mem H Hc b c kd a s L ka ks m) (n : Hc q = none) : H q = none := bs_free h.bs h.bg n
theorem Mem.new (h : Mem H Hc b c kd a s L ka ks m) (n : Hc q = none) (o : HO) : Mem H (upd Hc q o) b c kd a s L ka ks ((q, o) :: m) := by
  have S : Same Hc (upd Hc q o) := Same.new n
  have g := h.call (Same.bs S) (h.bg.same S)
  refine { g with mm := fun x hx => ?_ }
  rcases List.mem_cons.mp hx with rfl | hx
  · exact ⟨upd_same, h.free n, (ne_of_none h.kt n).symm, (ne_of_none h.ha n).symm, (ne_of_none h.hs n).symm⟩
  · exact g.mm x hx
theorem Mem.less (h : Mem H Hc b c kd a s L ka ks m) (e : ∀ x ∈ m', x ∈ m) : Mem H Hc b c kd a s L ka ks m' := { h with mm := fun x hx => h.mm x (e x hx) }
theorem Mem.setK (h : Mem H Hc b c kd a s L ka ks m) (L' : List (Key × V)) : Mem H (upd Hc kd (.dK L')) b c kd a s L' ka ks m := by
  obtain ⟨n1, n2, n3⟩ := h.ne
  refine ⟨h.bg.beside (h.nb h.f1).1 (h.nb h.f1).2, fun x o e n => ?_, h.bg0, upd_same, by rw [upd_ne n1.symm]; exact h.ha, by rw [upd_ne n2.symm]; exact h.hs, h.f1, h.f2, h.f3, h.ne, fun x hx => ?_⟩
  · rw [upd_ne (ne_of_none e h.f1)]; exact h.bs x o e n
  · obtain ⟨p, q, r⟩ := h.mm x hx
    exact ⟨by rw [upd_ne r.1]; exact p, q, r⟩
theorem Mem.setA (h : Mem H Hc b c kd a s L ka ks m) (L' : List (Key × V)) : Mem H (upd Hc a (.dK L')) b c kd a s L L' ks m := by
  obtain ⟨n1, n2, n3⟩ := h.ne
  refine ⟨h.bg.beside (h.nb h.f2).1 (h.nb h.f2).2, fun x o e n => ?_, h.bg0, by rw [upd_ne n1]; exact h.kt, upd_same, by rw [upd_ne n3.symm]; exact h.hs, h.f1, h.f2, h.f3, h.ne, fun x hx => ?_⟩
  · rw [upd_ne (ne_of_none e h.f2)]; exact h.bs x o e n
  · obtain ⟨p, q, r⟩ := h.mm x hx
    exact ⟨by rw [upd_ne r.2.1]; exact p, q, r⟩
theorem Mem.setS (h : Mem H Hc b c kd a s L ka ks m) (L' : List (Key × V)) : Mem H (upd Hc s (.dK L')) b c kd a s L ka L' m := by
  obtain ⟨n1, n2, n3⟩ := h.ne
  refine ⟨h.bg.beside (h.nb h.f3).1 (h.nb h.f3).2, fun x o e n => ?_, h.bg0, by rw [upd_ne n2]; exact h.kt, by rw [upd_ne n3]; exact h.ha, upd_same, h.f1, h.f2, h.f3, h.ne, fun x hx => ?_⟩
  · rw [upd_ne (ne_of_none e h.f3)]; exact h.bs x o e n
  · obtain ⟨p, q, r⟩ := h.mm x hx
    exact ⟨by rw [upd_ne r.2.2]; exact p, q, r⟩
end
/-- the tables that are drawn -/
abbrev AT := List (Str × Addr × List Str)
def ATk (T : AT) : List (Key × V) := T.map fun x => (.inr x.1, .ref x.2.1)
def ATm (T : AT) : List (Addr × HO) := T.map fun x => (x.2.1, .tup (x.2.2.map V.str))
structure AGood (T : AT) (ns : List Str) : Prop where
  n : T.map (·.1) = ns
  w : ∀ x ∈ T, WordsOk x.2.2 [] ∧ 1 ≤ x.2.2.length ∧ x.2.2.length ≤ 2
abbrev ST := List (Str × Addr × Nat × Addr × List Str)
def STk (T : ST) : List (Key × V) := T.map fun x => (.inr x.1, .ref x.2.1)
def STm (T : ST) : List (Addr × HO) := T.map (fun x => (x.2.1, .tup [.int x.2.2.1, .ref x.2.2.2.1])) ++ T.map (fun x => (x.2.2.2.1, .tup (x.2.2.2.2.map V.str)))
structure SGood (T : ST) (ns : List Str) : Prop where
  n : T.map (·.1) = ns
  w : ∀ x ∈ T, WordsOk x.2.2.2.2 [] ∧ 1 ≤ x.2.2.2.2.length ∧ x.2.2.2.2.length ≤ 2 ∧ 1 ≤ x.2.2.1 ∧ x.2.2.1 ≤ 2
theorem valV_new {ns : List Str} {kvs : List (Key × V)} {z : Str} (e : kvs.map (·.1) = ns.map Sum.inr) (n : z ∉ ns) : valV kvs (Sum.inr z : Key) = none := by
  cases q : valV kvs (Sum.inr z : Key) with
  | none => rfl
  | some v =>
    have := valV_in q
    rw [e] at this
    obtain ⟨y, hy, e2⟩ := List.mem_map.mp this
    rw [Sum.inr.inj e2] at hy
    exact absurd hy n
theorem valV_mem {kvs : List (Key × V)} {k : Key} {v : V} (h : valV kvs k = some v) : (k, v) ∈ kvs := by
  induction kvs with
  | nil => cases h
  | cons p r ih =>
    by_cases e : p.1 = k
    · rw [valV_pos e] at h
      rw [← e, ← Option.some.inj h]
      exact List.mem_cons_self
    · rw [valV_neg e] at h
      exact List.mem_cons_of_mem _ (ih h)
theorem upd_comm {H : Hp} {x y : Addr} {u v : HO} (n : x ≠ y) : upd (upd H x u) y v = upd (upd H y v) x u := by
  funext z
  unfold upd
  by_cases h1 : z = y
  · rw [if_pos h1, if_neg (fun e => n (e.symm.trans h1)), if_pos h1]
  · rw [if_neg h1, if_neg h1]
section
variable {K : PySem.W.Frag} {H Hc H2 : Hp} {b c kd a s : Addr} {L L' ka ks ka' ks' : List (Key × V)} {m m' : List (Addr × HO)} {q : Addr} {o : HO}
theorem Mem.ret (M : Mem H Hc b c kd a s L ka ks m) (hb : Bg H2 b c) (bs : Bs Hc H2 b) (np : Hc q = none) (hp : H2 q = some o) : Mem H H2 b c kd a s L ka ks ((q, o) :: m) := by
  have M' := M.call bs hb
  refine { M' with mm := fun x hx => ?_ }
  rcases List.mem_cons.mp hx with rfl | hx
  · exact ⟨hp, M.free np, (ne_of_none M.kt np).symm, (ne_of_none M.ha np).symm, (ne_of_none M.hs np).symm⟩
  · exact M'.mm x hx
theorem Mem.dget (M : Mem H Hc b c kd a s L ka ks m) (k : Str) {v : V} (e : valV L (Sum.inr k : Key) = some v) : DGet Hc kd (.str k) (some v) := e ▸ DGet.k (k := .inr k) M.kt
theorem Mem.dput (M : Mem H Hc b c kd a s L ka ks m) (k : Str) {v : V} (e : putK L (Sum.inr k : Key) v = L') (l : L.length ≤ 1000) : DPut Hc kd (.str k) v (upd Hc kd (.dK L')) := e ▸ DPut.k (k := .inr k) M.kt (small1000 l)
theorem Mem.hd {x : Addr × HO} (M : Mem H Hc b c kd a s L ka ks (x :: m)) : Hc x.1 = some x.2 := (M.mm _ List.mem_cons_self).1
/-- a is locked while this stands of the heap unlocked -/
theorem Mem.lnew {X : HO} (M : Mem H (upd Hc a X) b c kd a s L ka ks m) {u : HO} (l : Hc a = some u) (n : Hc q = none) (o : HO) : Mem H (upd (upd Hc q o) a X) b c kd a s L ka ks ((q, o) :: m) := by
  have na : q ≠ a := (ne_of_none l n).symm
  rw [upd_comm na]
  exact M.new (by rw [upd_ne na]; exact n) o
theorem Mem.lsetK {X : HO} (M : Mem H (upd Hc a X) b c kd a s L ka ks m) (L' : List (Key × V)) : Mem H (upd (upd Hc kd (.dK L')) a X) b c kd a s L' ka ks m := by
  rw [upd_comm M.ne.1]
  exact M.setK L'
theorem Mem.lget {X : HO} (M : Mem H (upd Hc a X) b c kd a s L ka ks m) {x : Addr} {o : HO} (h : (x, o) ∈ m) : Hc x = some o := by
  obtain ⟨p, _, _, n, _⟩ := M.mm _ h
  rw [upd_ne n] at p
  exact p
theorem Mem.lkt {X : HO} (M : Mem H (upd Hc a X) b c kd a s L ka ks m) : Hc kd = some (.dK L) := by
  have := M.kt
  rw [upd_ne M.ne.1] at this
  exact this
end
theorem atk_keys {T : AT} {ns : List Str} (g : AGood T ns) : (ATk T).map (·.1) = ns.map Sum.inr := by
  rw [← g.n]
  unfold ATk
  simp
theorem stk_keys {T : ST} {ns : List Str} (g : SGood T ns) : (STk T).map (·.1) = ns.map Sum.inr := by
  rw [← g.n]
  unfold STk
  simp
theorem agood_more {T : AT} {ns : List Str} (g : AGood T ns) {z : Str} {t : Addr} {ws : List Str} (h : WordsOk ws [] ∧ 1 ≤ ws.length ∧ ws.length ≤ 2) : AGood (T ++ [(z, t, ws)]) (ns ++ [z]) :=
  ⟨by rw [List.map_append, g.n]; rfl, fun x hx => by
    rcases List.mem_append.mp hx with hx | hx
    · exact g.w x hx
    · rw [List.mem_singleton.mp hx]; exact h⟩
theorem sgood_more {T : ST} {ns : List Str} (g : SGood T ns) {z : Str} {t u : Addr} {r : Nat} {ws : List Str} (h : WordsOk ws [] ∧ 1 ≤ ws.length ∧ ws.length ≤ 2 ∧ 1 ≤ r ∧ r ≤ 2) : SGood (T ++ [(z, t, r, u, ws)]) (ns ++ [z]) :=
  ⟨by rw [List.map_append, g.n]; rfl, fun x hx => by
    rcases List.mem_append.mp hx with hx | hx
    · exact g.w x hx
    · rw [List.mem_singleton.mp hx]; exact h⟩
theorem atk_put {T : AT} {ns : List Str} (g : AGood T ns) {z : Str} (n : z ∉ ns) {t : Addr} {ws : List Str} : putK (ATk T) (Sum.inr z : Key) (.ref t) = ATk (T ++ [(z, t, ws)]) := by
  rw [putK_new _ (valV_new (atk_keys g) n)]
  unfold ATk
  simp
theorem stk_put {T : ST} {ns : List Str} (g : SGood T ns) {z : Str} (n : z ∉ ns) {t u : Addr} {r : Nat} {ws : List Str} : putK (STk T) (Sum.inr z : Key) (.ref t) = STk (T ++ [(z, t, r, u, ws)]) := by
  rw [putK_new _ (valV_new (stk_keys g) n)]
  unfold STk
  simp
theorem take_nd {ns : List Str} (nd : ns.Nodup) {i : Nat} {z : Str} (h : ns[i]? = some z) : z ∉ ns.take i := fun hm => by
  obtain ⟨j, hj, e⟩ := List.mem_take_iff_getElem.mp hm
  have hi : i < ns.length := (List.getElem?_eq_some_iff.mp h).1
  have h2 : ns[i] = z := (List.getElem?_eq_some_iff.mp h).2
  have hj2 : j < ns.length := by omega
  have := (List.getElem_inj (h₀ := hj2) (h₁ := hi) nd).mp (e.trans h2.symm)
  omega
def spKit (K : PySem.W.Frag) : Sp := fun vs H Q _ => ∃ (b c : Addr) (room : Int) (gated : Bool), vs = [.ref b, .int room, .int 5, .bl gated] ∧ Bg H b c ∧
  ∀ (H' : Hp) (kd : Addr) (kt : Kit) (a s g i l sl w0 : Addr) (TA : AT) (TS : ST), Bs H H' b → H kd = none → H a = none → H s = none → GenAt K H' b c kd kt room a s g i l sl w0 → kt.Ok → kt.Words → kt.ka = ATk TA → kt.ks = STk TS → AGood TA kt.asks → SGood TS kt.sigs → kt.asks.length ≤ 2 → kt.sigs.length ≤ 2 →
    kt.inputs.Nodup → kt.inputs ≠ [] → kt.inputs.length ≤ 2 → (∀ z ∈ kt.inputs, isWord z = true) → (∀ x ∈ ATm TA ++ STm TS, H' x.1 = some x.2 ∧ H x.1 = none ∧ x.1 ≠ kd) → H i = none → i ≠ kd → Q (.ref kd) H'
section
variable {P : Program} {w : World} {K : PySem.W.Frag} {mg : Str → Option Value} {base : Heap}
theorem ok_kit {f : Addr} {fd : FuncData} (F : FnP K "_law_kit" "_law_kit" s__law_kit f fd) (T : Tx w K mg) (G__law_draw : Def P w K mg base CX0 1 "_law_draw" p__law_draw spDraw) (G__law_words : Def P w K mg base CX0 2 "_law_words" p__law_words (spWords K)) : FnOk P w K mg base CX0 3 f fd p__law_kit (spKit K) := by
  refine F.ok sc__law_kit (fun vs H Q E h => ?_) (fun cdv A outer s H vs Q E hr h => ?_)
  · obtain ⟨b, c, room, gated, rfl, _⟩ := h
    rfl
  · obtain ⟨b, c, room, gated, rfl, hb, k⟩ := h
    have hu := hu_of hr
    refine ⟨_, PSs.nox (pss_cons (ps_set (i := 4) sc__law_kit.nd rfl (.inl rfl) (pe_disp (pps_cons pe_str pe_dnewK (pps_cons pe_str pe_dnewK (pps_cons pe_str (pv 1) (pps_cons pe_str (pv 2) (pps_cons pe_str (pe_lst pa_nil) pps_nil))))) (by rfl) (by rfl) (fun z => by cases z) (by decide)))
      (pss_cons (ps_for PassesOwn.never rfl (pi_list (pe_fn G__law_words (hr.mono (by omega)) (by rfl) pass0 (pa_cons (pv 0) (pa_cons (pe_op op_add pe_int (pe_fn G__law_draw (hr.mono (by omega)) (by rfl) pass0 (pa_cons (pv 0) (pa_cons pe_int pa_nil)))) (pa_cons pe_int (pa_cons (pe_lst pa_nil) pa_nil)))))) (pg_name (i := 5) sc__law_kit.nd rfl (.inl rfl)) (pss_one (ps_dput hu (pe_dget hu (pv 4) pe_str (fun _ _ => rfl)) (pv 5) (pe_callTy call_tuple_of (by rfl) T.b_tuple (by decide +kernel) (pa_cons (pe_fn G__law_words (hr.mono (by omega)) (by rfl) pass0 (pa_cons (pv 0) (pa_cons (pe_op op_add pe_int (pe_fn G__law_draw (hr.mono (by omega)) (by rfl) pass0 (pa_cons (pv 0) (pa_cons pe_int pa_nil)))) (pa_cons pe_int (pa_cons (pe_lst pa_nil) pa_nil))))) pa_nil)) rfl)))
      (pss_cons (ps_for PassesOwn.never rfl (pi_list (pe_fn G__law_words (hr.mono (by omega)) (by rfl) pass0 (pa_cons (pv 0) (pa_cons (pe_fn G__law_draw (hr.mono (by omega)) (by rfl) pass0 (pa_cons (pv 0) (pa_cons pe_int pa_nil))) (pa_cons pe_int (pa_cons (pe_lst pa_nil) pa_nil)))))) (pg_name (i := 5) sc__law_kit.nd rfl (.inl rfl)) (pss_one (ps_dput hu (pe_dget hu (pv 4) pe_str (fun _ _ => rfl)) (pv 5) (pe_tup (pa_cons (pe_op op_add pe_int (pe_fn G__law_draw (hr.mono (by omega)) (by rfl) pass0 (pa_cons (pv 0) (pa_cons pe_int pa_nil)))) (pa_cons (pe_callTy call_tuple_of (by rfl) T.b_tuple (by decide +kernel) (pa_cons (pe_fn G__law_words (hr.mono (by omega)) (by rfl) pass0 (pa_cons (pv 0) (pa_cons (pe_op op_add pe_int (pe_fn G__law_draw (hr.mono (by omega)) (by rfl) pass0 (pa_cons (pv 0) (pa_cons pe_int pa_nil)))) (pa_cons pe_int (pa_cons (pe_lst pa_nil) pa_nil))))) pa_nil)) pa_nil))) rfl)))
      (pss_cons (ps_dput hu (pv 4) pe_str (pe_callTy call_tuple_of (by rfl) T.b_tuple (by decide +kernel) (pa_cons (pe_fn G__law_words (hr.mono (by omega)) (by rfl) pass0 (pa_cons (pv 0) (pa_cons (pe_op op_add pe_int (pe_fn G__law_draw (hr.mono (by omega)) (by rfl) pass0 (pa_cons (pv 0) (pa_cons pe_int pa_nil)))) (pa_cons pe_int (pa_cons (pe_lst pa_nil) pa_nil))))) pa_nil)) rfl)
      (pss_cons (ps_dput hu (pv 4) pe_str (pe_fn G__law_words (hr.mono (by omega)) (by rfl) pass0 (pa_cons (pv 0) (pa_cons (pe_op op_add pe_int (pe_fn G__law_draw (hr.mono (by omega)) (by rfl) pass0 (pa_cons (pv 0) (pa_cons pe_int pa_nil)))) (pa_cons pe_int (pa_cons (pe_lst pa_nil) pa_nil))))) rfl)
      (pss_cons (ps_dput hu (pv 4) pe_str (pe_fn G__law_words (hr.mono (by omega)) (by rfl) pass0 (pa_cons (pv 0) (pa_cons (pe_op op_add pe_int (pe_fn G__law_draw (hr.mono (by omega)) (by rfl) pass0 (pa_cons (pv 0) (pa_cons pe_int pa_nil)))) (pa_cons pe_int (pa_cons (pe_lst (pa_cons pe_str pa_nil)) pa_nil))))) rfl)
      (C8.pss_cut (ps_if (pt_val (pv 3)) (pss_one (ps_dput hu (pv 4) pe_str (pe_fn G__law_words (hr.mono (by omega)) (by rfl) pass0 (pa_cons (pv 0) (pa_cons (pe_op op_add pe_int (pe_fn G__law_draw (hr.mono (by omega)) (by rfl) pass0 (pa_cons (pv 0) (pa_cons pe_int pa_nil)))) (pa_cons pe_int (pa_cons (pe_lst pa_nil) pa_nil))))) rfl)) pss_nil)
      (pss_cons (ps_dput hu (pv 4) pe_str (pe_op op_cat (pe_op op_cat (pe_lst (pa_cons pe_str (pa_cons pe_str pa_nil))) (pe_callTy call_list_of (by rfl) T.b_list (by decide +kernel) (pa_cons (pe_dget hu (pv 4) pe_str (fun _ _ => rfl)) pa_nil))) (pe_dget hu (pv 4) pe_str (fun _ _ => rfl))) rfl)
      (pss_cons (ps_lock (ps_for PassesOwn.never rfl (pi_keys (pe_dget hu (pv 4) pe_str (fun _ _ => rfl))) (pg_name (i := 5) sc__law_kit.nd rfl (.inl rfl)) (pss_one (ps_dput hu (pv 4) pe_str (pe_op op_cat (pe_dget hu (pv 4) pe_str (fun _ _ => rfl)) (pe_callTy call_list_of (by rfl) T.b_list (by decide +kernel) (pa_cons (pe_dget hu (pe_dget hu (pv 4) pe_str (fun _ _ => rfl)) (pv 5) (fun _ _ => rfl)) pa_nil))) rfl))))
      (pss_one (ps_ret (pv 4)))))))))))), ?_⟩
    intro kd nkd a na s' ns
    refine ⟨_, rfl, _, rfl, by show 0 ≤ sizeLine; decide, fun g0 ng => ?_⟩
    have S1 : Same H (upd H kd (.dK [])) := Same.new nkd
    have S2 := S1.trans (Same.new (o := .dK []) na)
    have S3 := S2.trans (Same.new (o := .dK []) ns)
    have S4 := S3.trans (Same.new (o := .lst []) ng)
    have hk1 : upd H kd (.dK []) kd = some (.dK []) := upd_same
    have ka : kd ≠ a := ne_of_none hk1 na
    have hk2 := Same.new (o := .dK []) na _ _ hk1
    have ks : kd ≠ s' := ne_of_none hk2 ns
    have ha2 : upd (upd H kd (.dK [])) a (.dK []) a = some (.dK []) := upd_same
    have as : a ≠ s' := ne_of_none ha2 ns
    have hk3 := Same.new (o := .dK []) ns _ _ hk2
    have ha3 := Same.new (o := .dK []) ns _ _ ha2
    have hs3 : upd (upd (upd H kd (.dK [])) a (.dK [])) s' (.dK []) s' = some (.dK []) := upd_same
    have M0 : Mem H (upd (upd (upd H kd (.dK [])) a (.dK [])) s' (.dK [])) b c kd a s' [] [] [] [] :=
      ⟨hb.same S3, Same.bs S3, hb, hk3, ha3, hs3, nkd, S1.free na, S2.free ns, ⟨ka, ks, as⟩, fun x hx => by cases hx⟩
    have M1 := M0.new ng (.lst [])
    refine ⟨M1.kt, [(.inr "asks", .ref a), (.inr "signals", .ref s'), (.inr "room", .int room), (.inr "deepest", .int 5), (.inr "gates", .ref g0)], rfl, by show 5 ≤ 15; decide, ?_⟩
    have M := M1.setK (mergeK [] [(.inr "asks", .ref a), (.inr "signals", .ref s'), (.inr "room", .int room), (.inr "deepest", .int 5), (.inr "gates", .ref g0)])
    rw [show mergeK [] [((.inr "asks" : Key), V.ref a), (.inr "signals", .ref s'), (.inr "room", .int room), (.inr "deepest", .int 5), (.inr "gates", .ref g0)] = [((.inr "asks" : Key), V.ref a), (.inr "signals", .ref s'), (.inr "room", .int room), (.inr "deepest", .int 5), (.inr "gates", .ref g0)] from rfl] at M ⊢
    generalize upd (upd (upd (upd (upd H kd (.dK [])) a (.dK [])) s' (.dK [])) g0 (.lst [])) kd (.dK [((.inr "asks" : Key), V.ref a), (.inr "signals", .ref s'), (.inr "room", .int room), (.inr "deepest", .int 5), (.inr "gates", .ref g0)]) = H1 at M ⊢
    clear M1 M0 hs3 ha3 hk3 as ha2 ks hk2 ka hk1 S4 S3 S2 S1
    generalize hms : [(g0, HO.lst [])] = ms at M
    -- the asks
    refine ⟨_, rfl, _, rfl, b, c, 2, rfl, M.bg, (by decide), fun d Hd hd hbd ho => ⟨_, _, rfl, rfl, (by show _ ≤ sizeLine; decide), fun q nq => ?_⟩⟩
    have Mq := (M.call ho.bs hbd).new nq (.lst (List.map V.str ([] : List Str)))
    refine ⟨b, c, q, 1 + d, 2, ([] : List Str), (by show [V.ref b, V.int (((1 : Nat) : Int) + (d : Int)), V.int 2, V.ref q] = _; rw [← Int.natCast_add]; rfl), Mq.bg, (by decide), (by decide), (by omega), (by decide), SqL.of Mq.hd, fun wa pa Ha lw okw hb2 bs2 np hp => ?_⟩
    replace M := (Mq.ret hb2 bs2 np hp).less (m' := (pa, HO.lst (List.map V.str wa)) :: ms) (fun x hx => by
      rcases List.mem_cons.mp hx with rfl | hx
      · exact List.mem_cons_self
      · exact List.mem_cons_of_mem _ (List.mem_cons_of_mem _ hx))
    have lw2 : 1 ≤ List.length wa ∧ List.length wa ≤ 1 + 1 := by omega
    clear Mq lw hd hb2 bs2 np hp ho hbd
    have oka := okw
    have lwa := lw2
    clear okw lw2
    refine ⟨pa, rfl, ⟨_, SqL.of M.hd⟩, ?_⟩
    refine for_it (walk_list (K := K) (a := pa) (xs := wa.map V.str)) (fun i σ' H' => ∃ (T : AT) (v5 : Option V), σ' = [some (.ref b), some (.int room), some (.int 5), some (.bl gated), some (.ref kd), v5] ∧ AGood T (wa.take i) ∧ Mem H H' b c kd a s' [(.inr "asks", .ref a), (.inr "signals", .ref s'), (.inr "room", .int room), (.inr "deepest", .int 5), (.inr "gates", .ref g0)] (ATk T) [] (ATm T ++ (pa, HO.lst (wa.map V.str)) :: ms))
      ⟨[], _, rfl, ⟨by simp, fun x hx => by cases hx⟩, M⟩ (fun i σ' H' _ q => ?_) (fun i x σ' H3 H4 hi q y => ?_) (fun σ' H3 q => ?_)
    · obtain ⟨T, v5, _, _, M⟩ := q
      exact SqL.of (M.mm (pa, HO.lst (wa.map V.str)) (List.mem_append.mpr (.inr List.mem_cons_self))).1
    · obtain ⟨TA, v5, rfl, gT, M⟩ := q
      obtain ⟨rfl, hx⟩ := y
      rw [List.getElem?_map] at hx
      cases ez : wa[i]? with
      | none => rw [ez] at hx; cases hx
      | some z =>
      rw [ez] at hx
      cases Option.some.inj hx
      have zn := take_nd oka.n ez
      generalize hm2 : ATm TA ++ (pa, HO.lst (wa.map V.str)) :: ms = ms2 at M
      refine ⟨_, rfl, _, rfl, b, c, 2, rfl, M.bg, (by decide), fun d Hd hd hbd ho => ⟨_, _, rfl, rfl, (by show _ ≤ sizeLine; decide), fun q nq => ?_⟩⟩
      have Mq := (M.call ho.bs hbd).new nq (.lst (List.map V.str ([] : List Str)))
      refine ⟨b, c, q, 1 + d, 2, ([] : List Str), (by show [V.ref b, V.int (((1 : Nat) : Int) + (d : Int)), V.int 2, V.ref q] = _; rw [← Int.natCast_add]; rfl), Mq.bg, (by decide), (by decide), (by omega), (by decide), SqL.of Mq.hd, fun w1 p1 H5 lw okw hb2 bs2 np hp => ?_⟩
      replace M := (Mq.ret hb2 bs2 np hp).less (m' := (p1, HO.lst (List.map V.str w1)) :: ms2) (fun x hx => by
        rcases List.mem_cons.mp hx with rfl | hx
        · exact List.mem_cons_self
        · exact List.mem_cons_of_mem _ (List.mem_cons_of_mem _ hx))
      have lw2 : 1 ≤ List.length w1 ∧ List.length w1 ≤ 1 + 1 := by omega
      clear Mq lw hd hb2 bs2 np hp ho hbd
      refine ⟨p1, _, rfl, .inl ⟨SqL.of M.hd, fun t nt => ?_⟩⟩
      replace M := M.new nt (.tup (w1.map V.str))
      generalize upd H5 t (.tup (w1.map V.str)) = H6 at M ⊢
      have lka : (ATk TA).length ≤ 1000 := by
        have h1 := congrArg List.length gT.n
        rw [List.length_map, List.length_take] at h1
        unfold ATk
        rw [List.length_map]
        omega
      refine ⟨_, rfl, kd, _, rfl, M.dget "asks" rfl, _, rfl, a, _, rfl, DPut.k (k := .inr z) M.ha (small1000 lka), ?_⟩
      rw [atk_put gT zn (ws := w1)]
      refine ⟨TA ++ [(z, t, w1)], _, rfl, by rw [take_more ez]; exact agood_more gT ⟨okw, by omega, by omega⟩, (M.setA _).less fun x hx => ?_⟩
      unfold ATm at hx hm2
      rw [List.map_append, List.append_assoc] at hx
      rcases List.mem_append.mp hx with h | h
      · exact List.mem_cons_of_mem _ (List.mem_cons_of_mem _ (by rw [← hm2]; exact List.mem_append_left _ h))
      · rcases List.mem_cons.mp h with rfl | h
        · exact List.mem_cons_self
        · exact List.mem_cons_of_mem _ (List.mem_cons_of_mem _ (by rw [← hm2]; exact List.mem_append_right _ h))
    obtain ⟨TA, v5, rfl, gA, M⟩ := q
    rw [List.length_map, List.take_length] at gA
    replace M := M.less (m' := ATm TA ++ ms) (fun x hx => by
      rcases List.mem_append.mp hx with h | h
      · exact List.mem_append_left _ h
      · exact List.mem_append_right _ (List.mem_cons_of_mem _ h))
    generalize hmA : ATm TA ++ ms = mA at M
    -- the signals
    refine ⟨_, rfl, _, rfl, b, c, 2, rfl, M.bg, (by decide), fun d Hd hd hbd ho => ⟨(by show _ ≤ sizeLine; decide), fun q nq => ?_⟩⟩
    have Mq := (M.call ho.bs hbd).new nq (.lst [])
    refine ⟨b, c, q, d, 2, [], rfl, Mq.bg, (by decide), (by decide), (by omega), (by decide), SqL.of Mq.hd, fun wg pg Hg lw oks hb2 bs2 np hp => ?_⟩
    replace M := (Mq.ret hb2 bs2 np hp).less (m' := (pg, HO.lst (wg.map V.str)) :: mA) (fun x hx => by
      rcases List.mem_cons.mp hx with rfl | hx
      · exact List.mem_cons_self
      · exact List.mem_cons_of_mem _ (List.mem_cons_of_mem _ hx))
    have lws : wg.length ≤ 1 := by omega
    clear Mq lw hd hb2 bs2 np hp ho hbd
    refine ⟨pg, rfl, ⟨_, SqL.of M.hd⟩, ?_⟩
    refine for_it (walk_list (K := K) (a := pg) (xs := wg.map V.str)) (fun i σ' H' => ∃ (T : ST) (v5 : Option V), σ' = [some (.ref b), some (.int room), some (.int 5), some (.bl gated), some (.ref kd), v5] ∧ SGood T (wg.take i) ∧ Mem H H' b c kd a s' [(.inr "asks", .ref a), (.inr "signals", .ref s'), (.inr "room", .int room), (.inr "deepest", .int 5), (.inr "gates", .ref g0)] (ATk TA) (STk T) (STm T ++ (pg, HO.lst (wg.map V.str)) :: mA))
      ⟨[], _, rfl, ⟨by simp, fun x hx => by cases hx⟩, M⟩ (fun i σ' H' _ q => ?_) (fun i x σ' H3 H4 hi q y => ?_) (fun σ' H3 q => ?_)
    · obtain ⟨T, v5, _, _, M⟩ := q
      exact SqL.of (M.mm (pg, HO.lst (wg.map V.str)) (List.mem_append.mpr (.inr List.mem_cons_self))).1
    · obtain ⟨TS, v5, rfl, gT, M⟩ := q
      obtain ⟨rfl, hx⟩ := y
      rw [List.getElem?_map] at hx
      cases ez : wg[i]? with
      | none => rw [ez] at hx; cases hx
      | some z =>
      rw [ez] at hx
      cases Option.some.inj hx
      have zn := take_nd oks.n ez
      generalize hm2 : STm TS ++ (pg, HO.lst (wg.map V.str)) :: mA = ms2 at M
      refine ⟨_, rfl, b, c, 2, rfl, M.bg, (by decide), fun r Hr hrr hbr hor => ⟨_, _, rfl, rfl, ?_⟩⟩
      replace M := M.call hor.bs hbr
      refine ⟨_, rfl, _, rfl, b, c, 2, rfl, M.bg, (by decide), fun d Hd hd hbd ho => ⟨_, _, rfl, rfl, (by show _ ≤ sizeLine; decide), fun q nq => ?_⟩⟩
      have Mq := (M.call ho.bs hbd).new nq (.lst (List.map V.str ([] : List Str)))
      refine ⟨b, c, q, 1 + d, 2, ([] : List Str), (by show [V.ref b, V.int (((1 : Nat) : Int) + (d : Int)), V.int 2, V.ref q] = _; rw [← Int.natCast_add]; rfl), Mq.bg, (by decide), (by decide), (by omega), (by decide), SqL.of Mq.hd, fun w1 p1 H5 lw okw hb2 bs2 np hp => ?_⟩
      replace M := (Mq.ret hb2 bs2 np hp).less (m' := (p1, HO.lst (List.map V.str w1)) :: ms2) (fun x hx => by
        rcases List.mem_cons.mp hx with rfl | hx
        · exact List.mem_cons_self
        · exact List.mem_cons_of_mem _ (List.mem_cons_of_mem _ hx))
      have lw2 : 1 ≤ List.length w1 ∧ List.length w1 ≤ 1 + 1 := by omega
      clear Mq lw hd hb2 bs2 np hp ho hbd
      refine ⟨p1, _, rfl, .inl ⟨SqL.of M.hd, fun u nu => ?_⟩⟩
      replace M := M.new nu (.tup (w1.map V.str))
      generalize upd H5 u (.tup (w1.map V.str)) = H6 at M ⊢
      refine ⟨by show 2 ≤ sizeLine; decide, fun t nt => ?_⟩
      replace M := M.new nt (.tup [.int (1 + (r : Int)), .ref u])
      generalize upd H6 t (.tup [.int (1 + (r : Int)), .ref u]) = H7 at M ⊢
      have lka : (STk TS).length ≤ 1000 := by
        have h1 := congrArg List.length gT.n
        rw [List.length_map, List.length_take] at h1
        unfold STk
        rw [List.length_map]
        omega
      refine ⟨_, rfl, kd, _, rfl, M.dget "signals" rfl, _, rfl, s', _, rfl, DPut.k (k := .inr z) M.hs (small1000 lka), ?_⟩
      rw [stk_put gT zn (u := u) (r := 1 + r) (ws := w1)]
      refine ⟨TS ++ [(z, t, 1 + r, u, w1)], _, rfl, by rw [take_more ez]; exact sgood_more gT ⟨okw, by omega, by omega, by omega, by omega⟩, (M.setS _).less fun x hx => ?_⟩
      have e1 : ((1 + r : Nat) : Int) = 1 + (r : Int) := by omega
      unfold STm at hx hm2
      simp only [List.map_append, List.map_cons, List.map_nil, List.mem_append, List.mem_cons, List.not_mem_nil, or_false, e1] at hx
      have old : ∀ y, y ∈ ms2 → y ∈ (t, HO.tup [.int (1 + (r : Int)), .ref u]) :: (u, HO.tup (w1.map V.str)) :: (p1, HO.lst (w1.map V.str)) :: ms2 := fun y hy => List.mem_cons_of_mem _ (List.mem_cons_of_mem _ (List.mem_cons_of_mem _ hy))
      rcases hx with ((h | h) | (h | h)) | h | h
      · exact old _ (by rw [← hm2]; exact List.mem_append_left _ (List.mem_append_left _ h))
      · rw [h]; exact List.mem_cons_self
      · exact old _ (by rw [← hm2]; exact List.mem_append_left _ (List.mem_append_right _ h))
      · rw [h]; exact List.mem_cons_of_mem _ List.mem_cons_self
      · exact old _ (by rw [← hm2, h]; exact List.mem_append_right _ List.mem_cons_self)
      · exact old _ (by rw [← hm2]; exact List.mem_append_right _ (List.mem_cons_of_mem _ h))
    obtain ⟨TS, v5, rfl, gS, M⟩ := q
    rw [List.length_map, List.take_length] at gS
    replace M := M.less (m' := STm TS ++ mA) (fun x hx => by
      rcases List.mem_append.mp hx with h | h
      · exact List.mem_append_left _ h
      · exact List.mem_append_right _ (List.mem_cons_of_mem _ h))
    generalize hmS : STm TS ++ mA = mS at M
    -- inputs, labels, slots
    refine ⟨_, rfl, _, rfl, b, c, 2, rfl, M.bg, (by decide), fun d Hd hd hbd ho => ⟨_, _, rfl, rfl, (by show _ ≤ sizeLine; decide), fun q nq => ?_⟩⟩
    have Mq := (M.call ho.bs hbd).new nq (.lst (List.map V.str ([] : List Str)))
    refine ⟨b, c, q, 1 + d, 2, ([] : List Str), (by show [V.ref b, V.int (((1 : Nat) : Int) + (d : Int)), V.int 2, V.ref q] = _; rw [← Int.natCast_add]; rfl), Mq.bg, (by decide), (by decide), (by omega), (by decide), SqL.of Mq.hd, fun wi pi Hi lw okw hb2 bs2 np hp => ?_⟩
    replace M := (Mq.ret hb2 bs2 np hp).less (m' := (pi, HO.lst (List.map V.str wi)) :: mS) (fun x hx => by
      rcases List.mem_cons.mp hx with rfl | hx
      · exact List.mem_cons_self
      · exact List.mem_cons_of_mem _ (List.mem_cons_of_mem _ hx))
    have lw2 : 1 ≤ List.length wi ∧ List.length wi ≤ 1 + 1 := by omega
    clear Mq lw hd hb2 bs2 np hp ho hbd
    have oki := okw
    have lwi := lw2
    clear okw lw2
    refine ⟨pi, _, rfl, .inl ⟨SqL.of M.hd, fun i ni => ?_⟩⟩
    replace M := (M.new ni (.tup (wi.map V.str))).less (m' := (i, HO.tup (wi.map V.str)) :: mS) (fun x hx => by
      rcases List.mem_cons.mp hx with rfl | hx
      · exact List.mem_cons_self
      · exact List.mem_cons_of_mem _ (List.mem_cons_of_mem _ hx))
    generalize upd Hi i (.tup (wi.map V.str)) = Hi2 at M ⊢
    refine ⟨_, rfl, kd, _, rfl, M.dput "inputs" (L' := [(.inr "asks", .ref a), (.inr "signals", .ref s'), (.inr "room", .int room), (.inr "deepest", .int 5), (.inr "gates", .ref g0), (.inr "inputs", .ref i)]) rfl (by show 5 ≤ 1000; decide), ?_⟩
    replace M := M.setK [(.inr "asks", .ref a), (.inr "signals", .ref s'), (.inr "room", .int room), (.inr "deepest", .int 5), (.inr "gates", .ref g0), (.inr "inputs", .ref i)]
    generalize upd Hi2 kd _ = Hi3 at M ⊢
    refine ⟨_, rfl, _, rfl, b, c, 2, rfl, M.bg, (by decide), fun d Hd hd hbd ho => ⟨_, _, rfl, rfl, (by show _ ≤ sizeLine; decide), fun q nq => ?_⟩⟩
    have Mq := (M.call ho.bs hbd).new nq (.lst (List.map V.str ([] : List Str)))
    refine ⟨b, c, q, 2 + d, 2, ([] : List Str), (by show [V.ref b, V.int (((2 : Nat) : Int) + (d : Int)), V.int 2, V.ref q] = _; rw [← Int.natCast_add]; rfl), Mq.bg, (by decide), (by decide), (by omega), (by decide), SqL.of Mq.hd, fun wl l Hl lw okw hb2 bs2 np hp => ?_⟩
    replace M := (Mq.ret hb2 bs2 np hp).less (m' := (l, HO.lst (List.map V.str wl)) :: ((i, HO.tup (wi.map V.str)) :: mS)) (fun x hx => by
      rcases List.mem_cons.mp hx with rfl | hx
      · exact List.mem_cons_self
      · exact List.mem_cons_of_mem _ (List.mem_cons_of_mem _ hx))
    have lw2 : 2 ≤ List.length wl ∧ List.length wl ≤ 2 + 1 := by omega
    clear Mq lw hd hb2 bs2 np hp ho hbd
    have okl := okw
    have lwl := lw2
    clear okw lw2
    refine ⟨_, rfl, kd, _, rfl, M.dput "labels" (L' := [(.inr "asks", .ref a), (.inr "signals", .ref s'), (.inr "room", .int room), (.inr "deepest", .int 5), (.inr "gates", .ref g0), (.inr "inputs", .ref i), (.inr "labels", .ref l)]) rfl (by show 6 ≤ 1000; decide), ?_⟩
    replace M := M.setK [(.inr "asks", .ref a), (.inr "signals", .ref s'), (.inr "room", .int room), (.inr "deepest", .int 5), (.inr "gates", .ref g0), (.inr "inputs", .ref i), (.inr "labels", .ref l)]
    generalize upd Hl kd _ = Hl2 at M ⊢
    refine ⟨_, rfl, _, rfl, b, c, 2, rfl, M.bg, (by decide), fun d Hd hd hbd ho => ⟨_, _, rfl, rfl, (by show _ ≤ sizeLine; decide), fun q nq => ?_⟩⟩
    have Mq := (M.call ho.bs hbd).new nq (.lst (List.map V.str (["in"] : List Str)))
    refine ⟨b, c, q, 1 + d, 2, (["in"] : List Str), (by show [V.ref b, V.int (((1 : Nat) : Int) + (d : Int)), V.int 2, V.ref q] = _; rw [← Int.natCast_add]; rfl), Mq.bg, (by decide), (by decide), (by omega), (by decide), SqL.of Mq.hd, fun wsl sl Hsl lw okw hb2 bs2 np hp => ?_⟩
    replace M := (Mq.ret hb2 bs2 np hp).less (m' := (sl, HO.lst (List.map V.str wsl)) :: ((l, HO.lst (wl.map V.str)) :: (i, HO.tup (wi.map V.str)) :: mS)) (fun x hx => by
      rcases List.mem_cons.mp hx with rfl | hx
      · exact List.mem_cons_self
      · exact List.mem_cons_of_mem _ (List.mem_cons_of_mem _ hx))
    have lw2 : 1 ≤ List.length wsl ∧ List.length wsl ≤ 1 + 1 := by omega
    clear Mq lw hd hb2 bs2 np hp ho hbd
    have oksl := okw
    have lwsl := lw2
    clear okw lw2
    refine ⟨_, rfl, kd, _, rfl, M.dput "slots" (L' := [(.inr "asks", .ref a), (.inr "signals", .ref s'), (.inr "room", .int room), (.inr "deepest", .int 5), (.inr "gates", .ref g0), (.inr "inputs", .ref i), (.inr "labels", .ref l), (.inr "slots", .ref sl)]) rfl (by show 7 ≤ 1000; decide), ?_⟩
    replace M := M.setK [(.inr "asks", .ref a), (.inr "signals", .ref s'), (.inr "room", .int room), (.inr "deepest", .int 5), (.inr "gates", .ref g0), (.inr "inputs", .ref i), (.inr "labels", .ref l), (.inr "slots", .ref sl)]
    generalize upd Hsl kd _ = Hs2 at M ⊢
    generalize hmi : (sl, HO.lst (wsl.map V.str)) :: (l, HO.lst (wl.map V.str)) :: (i, HO.tup (wi.map V.str)) :: mS = mI at M
    -- gates
    refine ⟨fun σ' H' => ∃ (g : Addr) (wg : List Str) (v5 : Option V), σ' = [some (.ref b), some (.int room), some (.int 5), some (.bl gated), some (.ref kd), v5] ∧ Mem H H' b c kd a s' [(.inr "asks", .ref a), (.inr "signals", .ref s'), (.inr "room", .int room), (.inr "deepest", .int 5), (.inr "gates", .ref g), (.inr "inputs", .ref i), (.inr "labels", .ref l), (.inr "slots", .ref sl)] (ATk TA) (STk TS) ((g, HO.lst (wg.map V.str)) :: mI) ∧ wg.length ≤ 2 ∧ ∀ z ∈ wg, isWord z = true, ?_, ?_⟩
    · refine ⟨_, rfl, _, rfl, ?_⟩
      cases gated with
      | false =>
        refine iteF ?_
        refine ⟨g0, [], _, rfl, M.less (fun x hx => ?_), by decide, fun z hz => by cases hz⟩
        rcases List.mem_cons.mp hx with rfl | hx
        · rw [← hmi, ← hmS, ← hmA, ← hms]
          exact List.mem_cons_of_mem _ (List.mem_cons_of_mem _ (List.mem_cons_of_mem _ (List.mem_append_right _ (List.mem_append_right _ (List.mem_singleton.mpr rfl)))))
        · exact hx
      | true =>
        refine iteT ?_
        refine ⟨_, rfl, _, rfl, b, c, 2, rfl, M.bg, (by decide), fun d Hd hd hbd ho => ⟨_, _, rfl, rfl, (by show _ ≤ sizeLine; decide), fun q nq => ?_⟩⟩
        have Mq := (M.call ho.bs hbd).new nq (.lst (List.map V.str ([] : List Str)))
        refine ⟨b, c, q, 1 + d, 2, ([] : List Str), (by show [V.ref b, V.int (((1 : Nat) : Int) + (d : Int)), V.int 2, V.ref q] = _; rw [← Int.natCast_add]; rfl), Mq.bg, (by decide), (by decide), (by omega), (by decide), SqL.of Mq.hd, fun wg g Hg2 lw okw hb2 bs2 np hp => ?_⟩
        replace M := (Mq.ret hb2 bs2 np hp).less (m' := (g, HO.lst (List.map V.str wg)) :: mI) (fun x hx => by
          rcases List.mem_cons.mp hx with rfl | hx
          · exact List.mem_cons_self
          · exact List.mem_cons_of_mem _ (List.mem_cons_of_mem _ hx))
        have lw2 : 1 ≤ List.length wg ∧ List.length wg ≤ 1 + 1 := by omega
        clear Mq lw hd hb2 bs2 np hp ho hbd
        refine ⟨_, rfl, kd, _, rfl, M.dput "gates" (L' := [(.inr "asks", .ref a), (.inr "signals", .ref s'), (.inr "room", .int room), (.inr "deepest", .int 5), (.inr "gates", .ref g), (.inr "inputs", .ref i), (.inr "labels", .ref l), (.inr "slots", .ref sl)]) rfl (by show 8 ≤ 1000; decide), ?_⟩
        exact ⟨g, wg, _, rfl, M.setK _, by omega, okw.w⟩
    rintro σ' H9 ⟨g, wg2, v5, rfl, M, lg, wwg⟩
    have ml : ∀ {Hx : Hp} {L1 : List (Key × V)} {m : List (Addr × HO)}, Mem H Hx b c kd a s' L1 (ATk TA) (STk TS) m → (∀ x, x ∈ mI → x ∈ m) → Hx l = some (.lst (wl.map V.str)) ∧ Hx i = some (.tup (wi.map V.str)) := fun {Hx L1 m} M h =>
      ⟨(M.mm (l, HO.lst (wl.map V.str)) (h _ (by rw [← hmi]; exact List.mem_cons_of_mem _ List.mem_cons_self))).1, (M.mm (i, HO.tup (wi.map V.str)) (h _ (by rw [← hmi]; exact List.mem_cons_of_mem _ (List.mem_cons_of_mem _ List.mem_cons_self)))).1⟩
    -- the words
    refine ⟨by show 2 ≤ sizeLine; decide, fun q1 n1 => ?_⟩
    replace M := M.new n1 (.lst [.str "none", .str "rang"])
    generalize upd H9 q1 (.lst [.str "none", .str "rang"]) = H10 at M ⊢
    refine ⟨_, rfl, kd, _, rfl, M.dget "inputs" rfl, i, _, rfl, .inr (SqT.of (ml M (fun x hx => List.mem_cons_of_mem _ (List.mem_cons_of_mem _ hx))).2), fun q2 n2 => ?_⟩
    replace M := M.new n2 (.lst (wi.map V.str))
    generalize upd H10 q2 (.lst (wi.map V.str)) = H11 at M ⊢
    refine ⟨q1, q2, [.str "none", .str "rang"], wi.map V.str, rfl, rfl, (M.mm (q1, .lst [.str "none", .str "rang"]) (List.mem_cons_of_mem _ List.mem_cons_self)).1, M.hd, ?_, fun q3 n3 => ?_⟩
    · rw [List.length_map, sizeLine_eq]
      show 2 + _ ≤ _
      omega
    replace M := M.new n3 (.lst ([.str "none", .str "rang"] ++ wi.map V.str))
    generalize upd H11 q3 (.lst ([.str "none", .str "rang"] ++ wi.map V.str)) = H12 at M ⊢
    refine ⟨_, rfl, kd, _, rfl, M.dget "labels" rfl, q3, l, _, wl.map V.str, rfl, rfl, M.hd, (ml M (fun x hx => List.mem_cons_of_mem _ (List.mem_cons_of_mem _ (List.mem_cons_of_mem _ (List.mem_cons_of_mem _ hx))))).1, ?_, fun q4 n4 => ?_⟩
    · rw [List.length_append, List.length_map, List.length_map, sizeLine_eq]
      show 2 + _ + _ ≤ _
      omega
    replace M := M.new n4 (.lst (([.str "none", .str "rang"] ++ wi.map V.str) ++ wl.map V.str))
    generalize upd H12 q4 (.lst (([.str "none", .str "rang"] ++ wi.map V.str) ++ wl.map V.str)) = H13 at M ⊢
    rw [show ([V.str "none", .str "rang"] ++ wi.map V.str) ++ wl.map V.str = ((["none", "rang"] : List Str) ++ wi ++ wl).map V.str by simp] at M
    generalize hW : (["none", "rang"] : List Str) ++ wi ++ wl = W0 at M
    have wW : ∀ z ∈ W0, isWord z = true := fun z hz => by
      rw [← hW] at hz
      rcases List.mem_append.mp hz with hz | hz
      · rcases List.mem_append.mp hz with hz | hz
        · rcases List.mem_cons.mp hz with rfl | hz
          · decide +kernel
          · rw [List.mem_singleton.mp hz]; decide +kernel
        · exact oki.w z hz
      · exact okl.w z hz
    have lW : W0.length ≤ 8 ∧ W0 ≠ [] := by
      rw [← hW]
      refine ⟨?_, by simp⟩
      rw [List.length_append, List.length_append]
      show 2 + _ + _ ≤ _
      omega
    refine ⟨_, rfl, kd, _, rfl, M.dput "words" (L' := kitL a s' room g i l sl q4) rfl (by show 8 ≤ 1000; decide), ?_⟩
    replace M := (M.setK (kitL a s' room g i l sl q4)).less (m' := (q4, HO.lst (W0.map V.str)) :: (g, HO.lst (wg2.map V.str)) :: mI) (fun x hx => by
      rcases List.mem_cons.mp hx with rfl | hx
      · exact List.mem_cons_self
      · exact List.mem_cons_of_mem _ (List.mem_cons_of_mem _ (List.mem_cons_of_mem _ (List.mem_cons_of_mem _ hx))))
    generalize upd H13 kd _ = H14 at M ⊢
    -- the words of the asks
    refine ⟨a, .dK (ATk TA), M.ha, trivial, fun od => ?_⟩
    have ua : upd (upd H14 a (.frz od (.dK (ATk TA)))) a (.dK (ATk TA)) = H14 := by
      rw [upd_upd]
      funext x
      unfold upd
      by_cases z : x = a
      · rw [if_pos z, z, M.ha]
      · rw [if_neg z]
    have ML : Mem H (upd (upd H14 a (.frz od (.dK (ATk TA)))) a (.dK (ATk TA))) b c kd a s' (kitL a s' room g i l sl q4) (ATk TA) (STk TS) ((q4, HO.lst (W0.map V.str)) :: (g, HO.lst (wg2.map V.str)) :: mI) := by rw [ua]; exact M
    have fa : upd H14 a (.frz od (.dK (ATk TA))) a = some (.frz od (.dK (ATk TA))) := upd_same
    generalize upd H14 a (.frz od (.dK (ATk TA))) = H15 at ML fa ⊢
    refine ⟨_, rfl, kd, _, rfl, DGet.k (k := .inr "asks") ML.lkt, a, od, rfl, .inl ⟨_, fa, ?_⟩⟩
    refine for_it (walk_keys (d := a) (o := od) (kvs := ATk TA)) (fun i2 σ' H' => ∃ (w0 : Addr) (W : List Str) (v5 : Option V), σ' = [some (.ref b), some (.int room), some (.int 5), some (.bl gated), some (.ref kd), v5] ∧ H' a = some (.frz od (.dK (ATk TA))) ∧ Mem H (upd H' a (.dK (ATk TA))) b c kd a s' (kitL a s' room g i l sl w0) (ATk TA) (STk TS) ((w0, HO.lst (W.map V.str)) :: (g, HO.lst (wg2.map V.str)) :: mI) ∧ W.length ≤ 8 + 2 * i2 ∧ W ≠ [] ∧ ∀ z ∈ W, isWord z = true)
      ⟨q4, W0, _, rfl, fa, ML, lW.1, lW.2, wW⟩ (fun i2 σ' H' _ q => ?_) (fun i2 x σ' H3 H4 hi q y => ?_) (fun σ' H3 q => ?_)
    · obtain ⟨_, _, _, _, h, _⟩ := q
      exact h
    · obtain ⟨w0, W, v5, rfl, fa, M, lw, ne, ww⟩ := q
      obtain ⟨rfl, kx, vx, hk, rfl⟩ := y
      obtain ⟨x, hx, ex⟩ := List.mem_map.mp (List.mem_of_getElem? hk)
      obtain ⟨rfl, rfl⟩ := Prod.mk.inj ex
      obtain ⟨z, t, w1⟩ := x
      -- what the table tells at that name
      obtain ⟨t', w1', hx', hv⟩ : ∃ (t' : Addr) (w1' : List Str), (z, t', w1') ∈ TA ∧ valV (ATk TA) (Sum.inr z : Key) = some (.ref t') := by
        cases q : valV (ATk TA) (Sum.inr z : Key) with
        | none => exact absurd (List.mem_map.mpr ⟨_, List.mem_map.mpr ⟨_, hx, rfl⟩, rfl⟩) (valV_not q)
        | some v =>
          obtain ⟨y, hy, ey⟩ := List.mem_map.mp (valV_mem q)
          obtain ⟨z2, t2, w2⟩ := y
          obtain ⟨e1, e2⟩ := Prod.mk.inj ey
          cases Sum.inr.inj e1
          exact ⟨t2, w2, hy, by rw [← e2]⟩
      obtain ⟨gw1, gw2, gw3⟩ : WordsOk w1' [] ∧ 1 ≤ w1'.length ∧ w1'.length ≤ 2 := gA.w _ hx'
      have hmt : (t', HO.tup (w1'.map V.str)) ∈ ATm TA := List.mem_map.mpr ⟨_, hx', rfl⟩
      have mt : ∀ {y : Addr × HO}, y ∈ ATm TA → y ∈ mI := fun {y} hy => by
        rw [← hmi, ← hmS, ← hmA]
        exact List.mem_cons_of_mem _ (List.mem_cons_of_mem _ (List.mem_cons_of_mem _ (List.mem_append_right _ (List.mem_append_left _ hy))))
      refine ⟨_, rfl, kd, _, rfl, DGet.k (k := .inr "words") M.lkt, ?_⟩
      refine ⟨_, rfl, kd, _, rfl, DGet.k (k := .inr "asks") M.lkt, _, rfl, a, .ref t', rfl, .inl ⟨ATk TA, .inr z, .inr ⟨od, fa⟩, rfl, hv.symm⟩, ?_⟩
      refine ⟨t', _, rfl, .inr (SqT.of (M.lget (List.mem_cons_of_mem _ (List.mem_cons_of_mem _ (mt hmt))))), fun q nq => ?_⟩
      have M1 := M.lnew fa nq (.lst (w1'.map V.str))
      have fa1 : upd H4 q (.lst (w1'.map V.str)) a = some (.frz od (.dK (ATk TA))) := by rw [upd_ne (ne_of_none fa nq)]; exact fa
      generalize upd H4 q (.lst (w1'.map V.str)) = H5 at M1 fa1 ⊢
      refine ⟨w0, q, W.map V.str, w1'.map V.str, rfl, rfl, M1.lget (List.mem_cons_of_mem _ List.mem_cons_self), M1.lget List.mem_cons_self, ?_, fun q2 n2 => ?_⟩
      · have h1 := congrArg List.length gA.n
        rw [List.length_map] at h1
        have h2 : (ATk TA).length = TA.length := by unfold ATk; rw [List.length_map]
        rw [List.length_map, List.length_map, sizeLine_eq]
        omega
      rw [← List.map_append]
      have M2 := M1.lnew fa1 n2 (.lst ((W ++ w1').map V.str))
      have fa2 : upd H5 q2 (.lst ((W ++ w1').map V.str)) a = some (.frz od (.dK (ATk TA))) := by rw [upd_ne (ne_of_none fa1 n2)]; exact fa1
      generalize upd H5 q2 (.lst ((W ++ w1').map V.str)) = H6 at M2 fa2 ⊢
      refine ⟨_, rfl, kd, _, rfl, DPut.k (k := .inr "words") M2.lkt (small1000 (by show 9 ≤ 1000; decide)), ?_⟩
      refine ⟨q2, W ++ w1', _, rfl, by rw [upd_ne M2.ne.1.symm]; exact fa2, (M2.lsetK (kitL a s' room g i l sl q2)).less (fun x hx => ?_), by rw [List.length_append]; omega, by simp [ne], fun y hy => ?_⟩
      · rcases List.mem_cons.mp hx with rfl | hx
        · exact List.mem_cons_self
        · exact List.mem_cons_of_mem _ (List.mem_cons_of_mem _ (List.mem_cons_of_mem _ hx))
      · rcases List.mem_append.mp hy with h | h
        · exact ww y h
        · exact gw1.w y h
    obtain ⟨w0, W, v5, rfl, fa, M, lw, ne, ww⟩ := q
    refine ⟨fa, ?_⟩
    generalize upd H3 a (.dK (ATk TA)) = H4 at M ⊢
    refine ⟨_, rfl, ?_⟩
    have h1 := congrArg List.length gA.n
    rw [List.length_map] at h1
    have h2 : (ATk TA).length = TA.length := by unfold ATk; rw [List.length_map]
    have mi : ∀ x, x ∈ mI → x ∈ (w0, HO.lst (W.map V.str)) :: (g, HO.lst (wg2.map V.str)) :: mI := fun x hx => List.mem_cons_of_mem _ (List.mem_cons_of_mem _ hx)
    have hsl := M.mm (sl, HO.lst (wsl.map V.str)) (mi _ (by rw [← hmi]; exact List.mem_cons_self))
    have hi2 := M.mm (i, HO.tup (wi.map V.str)) (mi _ (by rw [← hmi]; exact List.mem_cons_of_mem _ (List.mem_cons_of_mem _ List.mem_cons_self)))
    have hg2 := M.mm (g, HO.lst (wg2.map V.str)) (List.mem_cons_of_mem _ List.mem_cons_self)
    obtain ⟨n1, n2, n3⟩ := M.ne
    have ga : GenAt K H4 b c kd ⟨ATk TA, STk TS, wa, wg, wg2, wi, wl, wsl, W⟩ room a s' g i l sl w0 :=
      ⟨M.bg, M.kt, M.ha, M.hs, hg2.1, hi2.1, (ml M mi).1, hsl.1, M.hd, ⟨(M.nb M.f1).1.symm, (M.nb M.f2).1.symm, (M.nb M.f3).1.symm⟩, ⟨n1, n2, (M.nb M.f1).2⟩⟩
    have nin : ("in" : Str) ∉ wsl := fun h => oksl.t _ h (List.mem_singleton.mpr rfl)
    refine k H4 kd ⟨ATk TA, STk TS, wa, wg, wg2, wi, wl, wsl, W⟩ a s' g i l sl w0 TA TS M.bs M.f1 M.f2 M.f3 ga ⟨atk_keys gA, stk_keys gS, nin, by show wl.length ≤ 3; omega, by show wsl.length ≤ 2; omega, lg⟩ ⟨⟨?_, ?_, oka.w⟩, ⟨?_, oks.w⟩, ⟨?_, wwg⟩, ⟨?_, ?_, okl.w, okl.n⟩, ⟨?_, ?_, oksl.w⟩, ⟨ne, ?_, ww⟩⟩ rfl rfl gA gS ?_ ?_ oki.n ?_ ?_ oki.w ?_ hi2.2.1 hi2.2.2.1
    · exact fun z => by have z : wa = [] := z; rw [z] at lwa; exact absurd lwa.1 (by decide)
    · show wa.length ≤ 10; omega
    · show wg.length ≤ 10; omega
    · show wg2.length ≤ 10; omega
    · exact fun z => by have z : wl = [] := z; rw [z] at lwl; exact absurd lwl.1 (by decide)
    · show wl.length ≤ 10; omega
    · exact fun z => by have z : wsl = [] := z; rw [z] at lwsl; exact absurd lwsl.1 (by decide)
    · show wsl.length ≤ 10; omega
    · show W.length ≤ 100; omega
    · show wa.length ≤ 2; omega
    · show wg.length ≤ 2; omega
    · exact fun z => by have z : wi = [] := z; rw [z] at lwi; exact absurd lwi.1 (by decide)
    · show wi.length ≤ 2; omega
    · intro x hx
      have hx : x ∈ mI := by
        rw [← hmi, ← hmS, ← hmA]
        rcases List.mem_append.mp hx with h | h
        · exact List.mem_cons_of_mem _ (List.mem_cons_of_mem _ (List.mem_cons_of_mem _ (List.mem_append_right _ (List.mem_append_left _ h))))
        · exact List.mem_cons_of_mem _ (List.mem_cons_of_mem _ (List.mem_cons_of_mem _ (List.mem_append_left _ h)))
      obtain ⟨p, q, r, _⟩ := M.mm x (mi x hx)
      exact ⟨p, q, r⟩
end
end OR

set_option Elab.async false
set_option maxRecDepth 100000
set_option maxHeartbeats 8000000
set_option linter.all false
namespace OR
open PySem PySem.Spec PyProof.Rows L2 TS2
def planL (a s : Addr) (room : Int) (g i l sl w D : Addr) : List (Key × V) := [(.inr "asks", .ref a), (.inr "signals", .ref s), (.inr "room", .int room), (.inr "deepest", .int 5), (.inr "gates", .ref g), (.inr "inputs", .ref i), (.inr "labels", .ref l), (.inr "slots", .ref sl), (.inr "words", .ref w), (.inr "rows", .ref D)]
/-- a plan that is drawn stands: its dict at kd, its rows -/
structure LPlan (K : PySem.W.Frag) (H : Hp) (kd : Addr) (kt : Kit) (a s i D : Addr) (xs : List V) (rows : List (Row 5)) (TA : AT) (TS : ST) : Prop where
  ob : ∃ (room : Int) (g l sl w : Addr), H kd = some (.dK (planL a s room g i l sl w D))
  ha : H a = some (.dK (ATk TA))
  hs : H s = some (.dK (STk TS))
  hi : H i = some (.tup (kt.inputs.map V.str))
  hD : H D = some (.lst xs)
  rows : All2 (RowAt K H 5) rows xs
  tm : ∀ x ∈ ATm TA ++ STm TS, H x.1 = some x.2
theorem LPlan.same {K : PySem.W.Frag} {H H' : Hp} {kd : Addr} {kt : Kit} {a s i D : Addr} {xs : List V} {rows : List (Row 5)} {TA : AT} {TS : ST} (h : LPlan K H kd kt a s i D xs rows TA TS) (S : Same H H') : LPlan K H' kd kt a s i D xs rows TA TS := by
  obtain ⟨⟨r, g, l, sl, w, ob⟩, ha, hs, hi, hD, hr, tm⟩ := h
  exact ⟨⟨r, g, l, sl, w, S _ _ ob⟩, S _ _ ha, S _ _ hs, S _ _ hi, S _ _ hD, hr.imp fun _ _ _ q => RowAt.mono S q, fun x hx => S _ _ (tm x hx)⟩
/-- what is known of it, wherever it stands -/
structure LPlanIs (kt : Kit) (rows : List (Row 5)) (TA : AT) (TS : ST) : Prop where
  ok : kt.Ok
  wok : kt.Words
  ka : kt.ka = ATk TA
  ks : kt.ks = STk TS
  gA : AGood TA kt.asks
  gS : SGood TS kt.sigs
  la : kt.asks.length ≤ 2
  ls : kt.sigs.length ≤ 2
  ni : kt.inputs.Nodup
  nei : kt.inputs ≠ []
  li : kt.inputs.length ≤ 2
  wi : ∀ z ∈ kt.inputs, isWord z = true
  good : ∀ r ∈ rows, Good kt 5 false r
  few : lsz 5 rows ≤ 14
  l8 : rows.length ≤ 8
def spLPlan (K : PySem.W.Frag) : Sp := fun vs H Q _ => ∃ (b c : Addr) (room : Nat) (gated : Bool), vs = [.ref b, .int room, .int 5, .bl gated] ∧ Bg H b c ∧ room ≤ 14 ∧
  ∀ (H' : Hp) (kd : Addr) (kt : Kit) (a s i D : Addr) (xs : List V) (rows : List (Row 5)) (TA : AT) (TS : ST), Bs H H' b → Bg H' b c → H kd = none → b ≠ a ∧ b ≠ s ∧ b ≠ kd → LPlan K H' kd kt a s i D xs rows TA TS → LPlanIs kt rows TA TS → Q (.ref kd) H'
section
variable {P : Program} {w : World} {K : PySem.W.Frag} {mg : Str → Option Value} {base : Heap}
theorem ok_lplan {k0 : Nat} {f : Addr} {fd : FuncData} (F : FnP K "_law_plan" "_law_plan" s__law_plan f fd) (T : Tx w K mg) (h3 : 3 ≤ k0) (G__law_kit : Def P w K mg base CX0 3 "_law_kit" p__law_kit (spKit K)) (G__law_list : Def P w K mg base CX0 k0 "_law_list" p__law_list (spList K 5)) : FnOk P w K mg base CX0 (k0 + 1) f fd p__law_plan (spLPlan K) := by
  refine F.ok sc__law_plan (fun vs H Q E h => ?_) (fun cdv A outer s H vs Q E hr h => ?_)
  · obtain ⟨b, c, room, gated, rfl, _⟩ := h
    rfl
  · obtain ⟨b, c, room, gated, rfl, hb, r14, k⟩ := h
    have hu := hu_of hr
    refine ⟨_, PSs.nox (pss_cons (ps_set (i := 4) sc__law_plan.nd rfl (.inl rfl) (pe_fn G__law_kit (hr.mono (by omega)) (by rfl) pass0 (pa_cons (pv 0) (pa_cons (pv 1) (pa_cons (pv 2) (pa_cons (pv 3) pa_nil))))))
      (pss_cons (ps_dput hu (pv 4) pe_str (pe_fn G__law_list (hr.mono (by omega)) (by rfl) pass0 (pa_cons (pv 0) (pa_cons (pv 4) (pa_cons pe_int (pa_cons pe_bl pa_nil))))) rfl)
      (pss_one (ps_ret (pv 4))))), ?_⟩
    refine ⟨_, rfl, _, rfl, _, rfl, _, rfl, b, c, room, gated, rfl, hb, fun H1 kd kt a s' g i l sl w0 TA TS bs nkd na ns ga ok wok eka eks gA gS la ls ni nei li wi tm hi0 hik => ?_⟩
    refine ⟨_, rfl, _, rfl, b, c, kd, kt, room, 1, false, a, s', g, i, l, sl, w0, rfl, rfl, ga, ok, wok, r14, fun H2 D xs rows rm k2 ga2 nD hD hrows hg hsz l8 => ?_⟩
    refine ⟨_, rfl, kd, _, rfl, DPut.k (k := .inr "rows") ga2.ob (small1000 (by show 9 ≤ 1000; decide)), ?_⟩
    rw [show putK (kitL a s' rm g i l sl w0) (Sum.inr "rows" : Key) (.ref D) = planL a s' rm g i l sl w0 D from rfl]
    have U : ∀ {x : Addr} {o : HO}, H2 x = some o → x ≠ kd → upd H2 kd (.dK (planL a s' rm g i l sl w0 D)) x = some o := fun e n => by rw [upd_ne n]; exact e
    have hkd : upd H2 kd (.dK (planL a s' rm g i l sl w0 D)) kd = some (.dK (planL a s' rm g i l sl w0 D)) := upd_same
    have bg3 := ga2.bg.beside (o := .dK (planL a s' rm g i l sl w0 D)) ga2.nb.1.symm ga2.nk.2.2
    have k3 : Kp (C2 b kd) H2 (upd H2 kd (.dK (planL a s' rm g i l sl w0 D))) := fun x o e n => U e (fun z => n (.inr z))
    generalize upd H2 kd (.dK (planL a s' rm g i l sl w0 D)) = H3 at U hkd bg3 k3 ⊢
    have bs3 : Bs H H3 b := fun x o e n => by
      have nx : ¬ C2 b kd x := by
        rintro (z | z)
        · exact n z
        · rw [z, nkd] at e; cases e
      exact k3 x o (k2 x o (bs x o e n) nx) nx
    refine ⟨_, rfl, ?_⟩
    refine k H3 kd kt a s' i D xs rows TA TS bs3 bg3 nkd ⟨ga2.nb.2.1, ga2.nb.2.2, ga2.nb.1⟩ ⟨⟨rm, g, l, sl, w0, hkd⟩, ?_, ?_, U ga2.hi hik, U hD (ne_of_none ga.ob nD).symm, hrows.imp fun _ _ _ q => RowAt.mono (fun x o e => ?_) q, fun x hx => ?_⟩ ⟨ok, wok, eka, eks, gA, gS, la, ls, ni, nei, li, wi, hg, by have h : lsz 5 rows + rm ≤ room := hsz; omega, l8⟩
    · rw [← eka]; exact U ga2.ha ga2.nk.1.symm
    · rw [← eks]; exact U ga2.hs ga2.nk.2.1.symm
    · obtain ⟨n, e⟩ := res_some e
      exact U e (fun z => by subst z; exact n.no ga.ob rfl)
    · obtain ⟨t1, t2, t3⟩ := tm x hx
      refine U (k2 _ _ t1 ?_) t3
      rintro (z | z)
      · rw [z] at t2
        obtain ⟨kvs, hk⟩ := hb.dk
        rw [hk] at t2
        cases t2
      · exact t3 z
end
end OR

set_option Elab.async false
set_option maxRecDepth 100000
set_option maxHeartbeats 4000000
set_option linter.all false
namespace OR
open PySem PySem.Spec PyProof.Rows L2 TS2
/-- what a value holds, to a depth: texts and whole numbers, lists and tuples -/
def Tr : Nat → Type
  | 0 => Empty
  | n + 1 => (Str ⊕ Int) ⊕ (Bool × List (Tr n))
def tW {n : Nat} (z : Str) : Tr (n + 1) := .inl (.inl z)
def tI {n : Nat} (i : Int) : Tr (n + 1) := .inl (.inr i)
def tL {n : Nat} (l : List (Tr n)) : Tr (n + 1) := .inr (false, l)
def tT {n : Nat} (l : List (Tr n)) : Tr (n + 1) := .inr (true, l)
def dT : Nat → Nat
  | 0 => 0
  | d + 1 => dT d + 3
section
variable (K : PySem.W.Frag) (H : Hp)
def TrAt : (n : Nat) → Tr n → V → Prop
  | 0, t, _ => nomatch t
  | _ + 1, .inl (.inl z), v => v = .str z ∧ z.length ≤ 1000
  | _ + 1, .inl (.inr i), v => v = .int i
  | n + 1, .inr (true, l), v => ∃ a xs, v = .ref a ∧ SqT K H a xs ∧ All2 (TrAt n) l xs ∧ l.length ≤ 1000
  | n + 1, .inr (false, l), v => ∃ a xs, v = .ref a ∧ H a = some (.lst xs) ∧ All2 (TrAt n) l xs ∧ l.length ≤ 1000
end
theorem TrAt.mono {K : PySem.W.Frag} {H H' : Hp} (s : Same H H') : ∀ {n : Nat} {t : Tr n} {v : V}, TrAt K H n t v → TrAt K H' n t v
  | 0, t, _, _ => nomatch t
  | n + 1, .inl (.inl z), v, h => h
  | n + 1, .inl (.inr i), v, h => h
  | n + 1, .inr (true, l), v, h => by
    obtain ⟨a, xs, rfl, ha, hx, hl⟩ := h
    exact ⟨a, xs, rfl, sameT s ha, hx.imp fun x y _ q => TrAt.mono s q, hl⟩
  | n + 1, .inr (false, l), v, h => by
    obtain ⟨a, xs, rfl, ha, hx, hl⟩ := h
    exact ⟨a, xs, rfl, s _ _ ha, hx.imp fun x y _ q => TrAt.mono s q, hl⟩
def up : {n : Nat} → Tr n → Tr (n + 1)
  | 0, t => nomatch t
  | _ + 1, .inl x => .inl x
  | _ + 1, .inr (b, l) => .inr (b, l.map up)
theorem All2.map {α β γ : Type} {R : β → γ → Prop} {f : α → β} {l : List α} {ys : List γ} (h : All2 (fun x y => R (f x) y) l ys) : All2 R (l.map f) ys := by
  induction h with
  | nil => exact .nil
  | cons h t ih => exact .cons h ih
theorem All2.unmap {α β γ : Type} {R : β → γ → Prop} {f : α → β} : ∀ {l : List α} {ys : List γ}, All2 R (l.map f) ys → All2 (fun x y => R (f x) y) l ys
  | [], _, h => by cases h; exact .nil
  | x :: l, _, h => by
    cases h with
    | cons h t => exact .cons h (All2.unmap t)
theorem at_up {K : PySem.W.Frag} {H : Hp} : ∀ {n : Nat} {t : Tr n} {v : V}, TrAt K H (n + 1) (up t) v ↔ TrAt K H n t v
  | 0, t, _ => nomatch t
  | n + 1, .inl (.inl z), v => Iff.rfl
  | n + 1, .inl (.inr i), v => Iff.rfl
  | n + 1, .inr (true, l), v => by
    constructor
    · rintro ⟨a, xs, rfl, ha, hx, hl⟩
      exact ⟨a, xs, rfl, ha, hx.unmap.imp fun x y _ q => at_up.mp q, by rw [List.length_map] at hl; exact hl⟩
    · rintro ⟨a, xs, rfl, ha, hx, hl⟩
      exact ⟨a, xs, rfl, ha, All2.map (hx.imp fun x y _ q => at_up.mpr q), by rw [List.length_map]; exact hl⟩
  | n + 1, .inr (false, l), v => by
    constructor
    · rintro ⟨a, xs, rfl, ha, hx, hl⟩
      exact ⟨a, xs, rfl, ha, hx.unmap.imp fun x y _ q => at_up.mp q, by rw [List.length_map] at hl; exact hl⟩
    · rintro ⟨a, xs, rfl, ha, hx, hl⟩
      exact ⟨a, xs, rfl, ha, All2.map (hx.imp fun x y _ q => at_up.mpr q), by rw [List.length_map]; exact hl⟩
/-- rows as such trees -/
def ptT {R : Type} {n : Nat} (f : R → Tr n) : Pt R → Tr (n + 2)
  | .word z => tW z
  | .words l => tT (l.map fun z => tW z)
  | .rows l => tL (l.map fun r => up (f r))
  | .sides ls => tT (ls.map fun l => tL (l.map f))
def rowT : (d : Nat) → Row d → Tr (dT d)
  | 0, r => nomatch r
  | d + 1, (w, ps) => tT (tW w :: ps.map (ptT (rowT d)))
abbrev rowsT (d : Nat) (rows : List (Row d)) : Tr (dT d + 1) := tL (rows.map (rowT d))
/-- few parts, words not long -/
def FewP {R : Type} (F : R → Prop) : Pt R → Prop
  | .word z => z.length ≤ 1000
  | .words l => l.length ≤ 1000 ∧ ∀ z ∈ l, z.length ≤ 1000
  | .rows l => l.length ≤ 1000 ∧ ∀ r ∈ l, F r
  | .sides ls => ls.length ≤ 1000 ∧ ∀ l ∈ ls, l.length ≤ 1000 ∧ ∀ r ∈ l, F r
def Few : (d : Nat) → Row d → Prop
  | 0, r => nomatch r
  | d + 1, r => r.1.length ≤ 1000 ∧ r.2.length ≤ 999 ∧ ∀ p ∈ r.2, FewP (Few d) p
section
variable {K : PySem.W.Frag} {H : Hp}
theorem lst_tr {R : Type} {n : Nat} {f : R → Tr n} {RA : R → V → Prop} {l : List R} {v : V} (few : l.length ≤ 1000) (m : ∀ r ∈ l, ∀ v, RA r v → TrAt K H n (f r) v) (h : LstAt H RA l v) : TrAt K H (n + 1) (tL (l.map f)) v := by
  obtain ⟨a, xs, rfl, ha, hx⟩ := h
  exact ⟨a, xs, rfl, ha, All2.map (hx.imp fun x y hm q => m x hm y q), by rw [List.length_map]; exact few⟩
theorem tr_lst {R : Type} {n : Nat} {f : R → Tr n} {RA : R → V → Prop} {l : List R} {v : V} (m : ∀ r ∈ l, ∀ v, TrAt K H n (f r) v → RA r v) (h : TrAt K H (n + 1) (tL (l.map f)) v) : LstAt H RA l v := by
  obtain ⟨a, xs, rfl, ha, hx, hl⟩ := h
  exact ⟨a, xs, rfl, ha, hx.unmap.imp fun x y hm q => m x hm y q⟩
theorem row_tr : ∀ {d : Nat} {r : Row d} {v : V}, Few d r → RowAt K H d r v → TrAt K H (dT d) (rowT d r) v
  | 0, r, _, _, _ => nomatch r
  | d + 1, (w, ps), v, few, h => by
    obtain ⟨a, vs, rfl, ha, hx⟩ := h
    obtain ⟨f1, f2, f3⟩ := few
    dsimp only at f1 f2 f3 hx ha
    have l1 : (tW w :: ps.map (ptT (rowT d))).length ≤ 1000 := by rw [List.length_cons, List.length_map]; omega
    refine ⟨a, _, rfl, ha, .cons ⟨rfl, f1⟩ (All2.map (hx.imp fun p y hm q => ?_)), l1⟩
    have fp := f3 p hm
    cases p with
    | word z => exact ⟨q, fp⟩
    | words l =>
      obtain ⟨b, rfl, hb⟩ := q
      have l2 : (l.map fun z => (tW z : Tr (dT d + 1))).length ≤ 1000 := by rw [List.length_map]; exact fp.1
      refine ⟨b, _, rfl, hb, ?_, l2⟩
      have f2 := fp.2
      clear hb fp hm l2
      induction l with
      | nil => exact .nil
      | cons z l ih => exact .cons ⟨rfl, f2 z List.mem_cons_self⟩ (ih fun y hy => f2 y (List.mem_cons_of_mem _ hy))
    | rows l => exact lst_tr (f := fun r => up (rowT d r)) fp.1 (fun r hr v q => at_up.mpr (row_tr (fp.2 r hr) q)) q
    | sides ls =>
      obtain ⟨b, ws, rfl, hb, hw⟩ := q
      have l2 : (ls.map fun l => (tL (l.map (rowT d)) : Tr (dT d + 1))).length ≤ 1000 := by rw [List.length_map]; exact fp.1
      exact ⟨b, ws, rfl, hb, All2.map (hw.imp fun l y hl q => lst_tr (fp.2 l hl).1 (fun r hr v q => row_tr ((fp.2 l hl).2 r hr) q) q), l2⟩
theorem tr_row : ∀ {d : Nat} {r : Row d} {v : V}, TrAt K H (dT d) (rowT d r) v → RowAt K H d r v
  | 0, r, _, _ => nomatch r
  | d + 1, (w, ps), v, h => by
    obtain ⟨a, xs, rfl, ha, hx, hl⟩ := h
    cases hx with
    | cons h1 h2 =>
    obtain ⟨rfl, _⟩ := h1
    refine ⟨a, _, rfl, ha, h2.unmap.imp fun p y hm q => ?_⟩
    cases p with
    | word z => exact q.1
    | words l =>
      obtain ⟨b, ws, rfl, hb, hw, hlw⟩ := q
      clear hlw
      refine ⟨b, rfl, ?_⟩
      have : ws = l.map V.str := by
        clear hb hm
        induction l generalizing ws with
        | nil => cases hw; rfl
        | cons z l ih =>
          cases hw with
          | cons h t =>
            rw [h.1, ih _ t]
            rfl
      rw [← this]
      exact hb
    | rows l => exact tr_lst (f := fun r => up (rowT d r)) (fun r hr v q => tr_row (at_up.mp q)) q
    | sides ls =>
      obtain ⟨b, ws, rfl, hb, hw, _⟩ := q
      exact ⟨b, ws, rfl, hb, hw.unmap.imp fun l y hl q => tr_lst (fun r hr v q => tr_row q) q⟩
end
theorem good_few {kt : Kit} : ∀ (d : Nat) (il : Bool) (r : Row d), Good kt d il r → Few d r
  | 0, _, r, _ => nomatch r
  | d + 1, il, r, h => by
    obtain ⟨lo, _, hk⟩ := h
    obtain ⟨k4, k12, k14⟩ := lo_kids lo
    have wl : ∀ e ∈ ftab, e.1.length ≤ 1000 := by decide +kernel
    refine ⟨wl _ lo.f, by omega, fun p hp => ?_⟩
    obtain ⟨i, hi⟩ := List.getElem?_of_mem hp
    obtain ⟨f, _, hf⟩ := lo.p.other hi
    obtain ⟨w3, wa, k3, _⟩ := pg_words hf
    have mk : ∀ l, l ∈ kidsP p → l ∈ kids r.2 := fun l hl => List.mem_flatten.mpr ⟨kidsP p, List.mem_map.mpr ⟨p, hp, rfl⟩, hl⟩
    cases p with
    | word z => have := isWord_len (wa z (by simp [wordsP])); show z.length ≤ 1000; omega
    | words l => exact ⟨by have : l.length ≤ 3 := w3; omega, fun z hz => by have := isWord_len (wa z (by simpa [wordsP] using hz)); omega⟩
    | rows l => exact ⟨by have := k14 l (mk l (by simp [kidsP])); omega, fun r' hr' => good_few d _ r' (hk l (mk l (by simp [kidsP])) r' hr')⟩
    | sides ls => exact ⟨by have : ls.length ≤ 3 := k3; omega, fun l hl => ⟨by have := k14 l (mk l (by simpa [kidsP] using hl)); omega, fun r' hr' => good_few d _ r' (hk l (mk l (by simpa [kidsP] using hl)) r' hr')⟩⟩
end OR

set_option Elab.async false
set_option maxRecDepth 100000
set_option maxHeartbeats 8000000
set_option linter.all false
namespace OR
open PySem PySem.Spec PyProof.Rows L2 TS2
theorem rr_new0 {H H1 H2 : Hp} {D : Addr} {xs : List V} (S : Same H H1) (hD : H1 D = some (.lst xs)) : Same (res (NL H1) H2) (RR H D H2) := same_res fun x o n e => ⟨⟨NL.of S n, fun z => by subst z; exact n.no hD rfl⟩, e⟩
theorem rr_old0 {H H1 H2 : Hp} {D : Addr} (S : Same H1 H2) : Same (RR H D H1) (RR H D H2) := same_res fun x o n e => ⟨n, S _ _ e⟩
def spCpRows (K : PySem.W.Frag) (n : Nat) : Sp := fun vs H Q _ => ∃ (p : Addr) (l : List (Tr n)) (xs : List V), vs = [.ref p] ∧ H p = some (.lst xs) ∧ All2 (TrAt K H n) l xs ∧ l.length ≤ 1000 ∧
  ∀ (H' : Hp) (D : Addr) (ys : List V), Same H H' → H D = none → H' D = some (.lst ys) → All2 (TrAt K (res (NL H) H') n) l ys → Q (.ref D) H'
def spCpPart (K : PySem.W.Frag) (n : Nat) : Sp := fun vs H Q _ => ∃ (v : V) (t : Tr n), vs = [v] ∧ TrAt K H n t v ∧ ∀ (H' : Hp) (v' : V), Same H H' → TrAt K (res (NL H) H') n t v' → Q v' H'
section
variable {P : Program} {w : World} {K : PySem.W.Frag} {mg : Str → Option Value} {base : Heap}
theorem ok_copy_rows {k n : Nat} {f : Addr} {fd : FuncData} (F : FnP K "_law_copy_rows" "_law_copy_rows" s__law_copy_rows f fd) (T : Tx w K mg) (G__law_copy_part : Def P w K mg base CX0 k "_law_copy_part" p__law_copy_part (spCpPart K n)) : FnOk P w K mg base CX0 (k + 1) f fd p__law_copy_rows (spCpRows K n) := by
  refine F.ok sc__law_copy_rows (fun vs H Q E h => ?_) (fun cdv A outer s H vs Q E hr h => ?_)
  · obtain ⟨p, l, xs, rfl, _⟩ := h
    rfl
  · obtain ⟨p, l, xs, rfl, hp, al, few, k⟩ := h
    refine ⟨_, PSs.nox (pss_one (ps_ret (pe_lc (own := [("_law_row", 1)]) (g := (gName 1)) (by rfl) sc__law_copy_rows.nd (pi_list (pv 0)) (blkOk_by (N := n__law_copy_rows) (sc := defScope s__law_copy_rows) (by decide +kernel)) (fun _ _ _ _ _ => (pg_name (i := 1) sc__law_copy_rows.nd rfl (.inl rfl))) (fun _ _ _ _ _ => pts_nil) (fun _ _ _ _ _ => (pe_fn G__law_copy_part (hr.mono (by omega)) (by rfl) pass0 (pa_cons (pv 1) pa_nil)))))), ?_⟩
    refine ⟨_, rfl, p, rfl, ⟨_, SqL.of hp⟩, fun D nD => ?_⟩
    refine lc_it (walk_list (K := K) (a := p) (xs := xs)) (fun i H' => Same H H' ∧ ∃ ys, H' D = some (.lst ys) ∧ All2 (TrAt K (RR H D H') n) (l.take i) ys) ⟨Same.new nD, [], upd_same, by rw [List.take_zero]; exact .nil⟩ (fun i H' _ q => SqL.of (q.1 _ _ hp)) (fun i x H1 H2 hi q y => ?_) (fun H1 q => ?_)
    · obtain ⟨rfl, hx⟩ := y
      obtain ⟨S1, ys, hD, hys⟩ := q
      obtain ⟨t, ht, hat⟩ := al.other hx
      refine ⟨rfl, ?_⟩
      refine tYes_ ?_
      refine iteT ?_
      refine ⟨_, rfl, x, t, rfl, hat.mono S1, fun H2 v' S2 hv => ?_⟩
      have hD2 := S2 _ _ hD
      refine ⟨ys, hD2, small1000 (by have := hys.len; rw [List.length_take] at this; omega), fun c o hc => ?_, ys ++ [v'], upd_same, ?_⟩
      · rw [upd_ne (ne_of_none hc nD)]
        exact S2 _ _ (S1 _ _ hc)
      · rw [take_more ht]
        exact (hys.imp fun _ _ _ q => q.mono ((rr_old0 S2).trans rr_upd)).app (All2.one (hv.mono ((rr_new0 S1 hD).trans rr_upd)))
    · obtain ⟨S1, ys, hD, hys⟩ := q
      rw [← al.len, List.take_length] at hys
      exact k _ D ys S1 nD hD (hys.imp fun _ _ _ q => q.mono rr_nl)
theorem ok_copy_part {k n : Nat} {f : Addr} {fd : FuncData} (F : FnP K "_law_copy_part" "_law_copy_part" s__law_copy_part f fd) (T : Tx w K mg) {k1 k2 : Nat} (h1 : k1 ≤ k) (h2 : k2 ≤ k) (G__law_copy_part : Def P w K mg base CX0 k1 "_law_copy_part" p__law_copy_part (spCpPart K n)) (G__law_copy_rows : Def P w K mg base CX0 k2 "_law_copy_rows" p__law_copy_rows (spCpRows K n)) : FnOk P w K mg base CX0 (k + 1) f fd p__law_copy_part (spCpPart K (n + 1)) := by
  refine F.ok sc__law_copy_part (fun vs H Q E h => ?_) (fun cdv A outer s H vs Q E hr h => ?_)
  · obtain ⟨v, t, rfl, _⟩ := h
    rfl
  · obtain ⟨v, t, rfl, hv, k⟩ := h
    refine ⟨_, PSs.nox (pss_cons (ps_if (pt_val (pe_callB call_isi (by rfl) T.b_isinstance (by decide +kernel) (pa_cons (pv 0) (pa_cons (pe_bltn (v := .ty "list") (u := .type "list") (by rfl) T.b_list (by decide +kernel) rfl) pa_nil)))) (pss_one (ps_ret (pe_fn G__law_copy_rows (hr.mono (by omega)) (by rfl) pass0 (pa_cons (pv 0) pa_nil)))) pss_nil)
      (pss_cons (ps_if (pt_val (pe_callB call_isi (by rfl) T.b_isinstance (by decide +kernel) (pa_cons (pv 0) (pa_cons (pe_bltn (v := .ty "tuple") (u := .type "tuple") (by rfl) T.b_tuple (by decide +kernel) rfl) pa_nil)))) (pss_one (ps_ret (pe_callTy call_tuple_of (by rfl) T.b_tuple (by decide +kernel) (pa_cons (pe_lc (own := [("_law_each", 1)]) (g := (gName 1)) (by rfl) sc__law_copy_part.nd (pi_tup (pv 0)) (blkOk_by (N := n__law_copy_part) (sc := defScope s__law_copy_part) (by decide +kernel)) (fun _ _ _ _ _ => (pg_name (i := 1) sc__law_copy_part.nd rfl (.inl rfl))) (fun _ _ _ _ _ => pts_nil) (fun _ _ _ _ _ => (pe_fn G__law_copy_part (hr.mono (by omega)) (by rfl) pass0 (pa_cons (pv 1) pa_nil)))) pa_nil)))) pss_nil)
      (pss_one (ps_ret (pv 0))))), ?_⟩
    match t, hv, k with
    | .inl (.inl z), ⟨e, hz⟩, k =>
      subst e
      refine ⟨_, rfl, .str z, .ty "list", _, _, false, rfl, .ty _, .base (.str z), kit_ty (by decide +kernel), _, rfl, ?_⟩
      refine iteF ?_
      refine ⟨_, rfl, .str z, .ty "tuple", _, _, false, rfl, .ty _, .base (.str z), kit_ty (by decide +kernel), _, rfl, ?_⟩
      refine iteF ?_
      exact ⟨_, rfl, k H (.str z) (Same.refl H) ⟨rfl, hz⟩⟩
    | .inl (.inr i), e, k =>
      have e : v = .int i := e
      subst e
      refine ⟨_, rfl, .int i, .ty "list", _, _, false, rfl, .ty _, .base (.int i), kit_ty (by decide +kernel), _, rfl, ?_⟩
      refine iteF ?_
      refine ⟨_, rfl, .int i, .ty "tuple", _, _, false, rfl, .ty _, .base (.int i), kit_ty (by decide +kernel), _, rfl, ?_⟩
      refine iteF ?_
      exact ⟨_, rfl, k H (.int i) (Same.refl H) rfl⟩
    | .inr (false, l), ⟨a, xs, e, ha, hx, hl⟩, k =>
      subst e
      refine ⟨_, rfl, .ref a, .ty "list", _, _, true, rfl, .ty _, tyL (SqL.of ha), kit_ty (by decide +kernel), _, rfl, ?_⟩
      refine iteT ?_
      refine ⟨_, rfl, a, l, xs, rfl, ha, hx, hl, fun H' D ys S nD hD hys => ?_⟩
      exact k H' (.ref D) S ⟨D, ys, rfl, by rw [res_of (S := NL H) (NL.new nD)]; exact hD, hys, hl⟩
    | .inr (true, l), ⟨a, xs, e, ha, hx, hl⟩, k =>
      subst e
      refine ⟨_, rfl, .ref a, .ty "list", _, _, false, rfl, .ty _, tyT ha, kit_ty (by decide +kernel), _, rfl, ?_⟩
      refine iteF ?_
      refine ⟨_, rfl, .ref a, .ty "tuple", _, _, true, rfl, .ty _, tyT ha, kit_ty (by decide +kernel), _, rfl, ?_⟩
      refine iteT ?_
      refine ⟨_, rfl, a, rfl, ⟨_, ha⟩, fun D nD => ?_⟩
      refine lc_it (walk_tup (K := K) (a := a) (xs := xs)) (fun i H' => Same H H' ∧ ∃ ys, H' D = some (.lst ys) ∧ All2 (TrAt K (RR H D H') n) (l.take i) ys) ⟨Same.new nD, [], upd_same, by rw [List.take_zero]; exact .nil⟩ (fun i H' _ q => sameT q.1 ha) (fun i x H1 H2 hi q y => ?_) (fun H1 q => ?_)
      · obtain ⟨rfl, hx1⟩ := y
        obtain ⟨S1, ys, hD, hys⟩ := q
        obtain ⟨t, ht, hat⟩ := hx.other hx1
        refine ⟨rfl, ?_⟩
        refine tYes_ ?_
        refine iteT ?_
        refine ⟨_, rfl, x, t, rfl, hat.mono S1, fun H2 v' S2 hv => ?_⟩
        have hD2 := S2 _ _ hD
        refine ⟨ys, hD2, small1000 (by have := hys.len; rw [List.length_take] at this; omega), fun c o hc => ?_, ys ++ [v'], upd_same, ?_⟩
        · rw [upd_ne (ne_of_none hc nD)]
          exact S2 _ _ (S1 _ _ hc)
        · rw [take_more ht]
          exact (hys.imp fun _ _ _ q => q.mono ((rr_old0 S2).trans rr_upd)).app (All2.one (hv.mono ((rr_new0 S1 hD).trans rr_upd)))
      · obtain ⟨S1, ys, hD, hys⟩ := q
        rw [← hx.len, List.take_length] at hys
        refine ⟨D, ys, rfl, .inl ⟨SqL.of hD, fun q nq => ?_⟩⟩
        have Sq : Same H1 (upd H1 q (.tup ys)) := Same.new nq
        refine k _ (.ref q) (S1.trans Sq) ⟨q, ys, rfl, SqT.of (by rw [res_of (S := NL H) (NL.new (S1.free nq))]; exact upd_same), hys.imp fun _ _ _ q => q.mono (rr_nl.trans (same_res fun x o n e => ⟨n, Sq x o e⟩)), hl⟩
end
end OR

set_option Elab.async false
set_option maxRecDepth 100000
set_option maxHeartbeats 8000000
set_option linter.all false
namespace OR
open PySem PySem.Spec PyProof.Rows L2 TS2
theorem passF {X : Cx} {σ : L2.St} : PassesAt (L2.CX X.prog X.w) X σ (fun _ _ _ => False) := fun _ _ _ _ _ _ ⟨_, _, _, _, _, _, _, _, _, _, _, _, h⟩ => h.elim
theorem passN {X : Cx} : Passes (L2.CX X.prog X.w) X (fun _ _ _ => False) := fun _ _ _ _ _ _ _ ⟨_, _, _, _, _, _, _, _, _, _, _, _, h⟩ => h.elim
abbrev kw3 : List Str := ["asks", "signals", "inputs"]
structure KwCls (P : Program) (w : World) (K : PySem.W.Frag) (mg : Str → Option Value) (base : Heap) (k : Nat) (x : Str) (C : Addr) (ps : List Str) (sp : Sp) : Prop where
  ex : ∃ (f : Addr) (fd : FuncData), mg x = some (.ref C) ∧ Mk K C f ∧ KBn K fd ps 2 kw3 (fun vs zs => vs ++ zs) (fun vs zs => vs ++ zs) ∧ FnOk P w K mg base (L2.CX P w) k f fd ps sp
theorem atk_at {T : AT} {i : Nat} {v : V} (h : ((ATk T).map (·.2))[i]? = some v) : ∃ x, T[i]? = some x ∧ v = .ref x.2.1 := by
  unfold ATk at h
  rw [List.map_map, List.getElem?_map] at h
  cases e : T[i]? with
  | none => rw [e] at h; cases h
  | some x => rw [e] at h; exact ⟨x, rfl, (Option.some.inj h).symm⟩
theorem stk_at {T : ST} {i : Nat} {v : V} (h : ((STk T).map (·.2))[i]? = some v) : ∃ x, T[i]? = some x ∧ v = .ref x.2.1 := by
  unfold STk at h
  rw [List.map_map, List.getElem?_map] at h
  cases e : T[i]? with
  | none => rw [e] at h; cases h
  | some x => rw [e] at h; exact ⟨x, rfl, (Option.some.inj h).symm⟩
theorem len_words {ws : List Str} (h : ∀ z ∈ ws, isWord z = true) : ∀ z ∈ ws, z.length ≤ 1000 := fun z hz => by have := isWord_len (h z hz); omega
section
variable {K : PySem.W.Frag} {H : Hp}
/-- the tables drawn, as arguments -/
theorem asks_arg {T : AT} {ns : List Str} (g : AGood T ns) (w : ∀ z ∈ ns, isWord z = true) (l : ns.length ≤ 2) {d : Addr} (hd : H d = some (.dK (ATk T))) (tm : ∀ x ∈ ATm T, H x.1 = some x.2) : TabArg K H "asks" 6 (.ref d) (some (ATk T)) := by
  have lT : T.length = ns.length := by have := congrArg List.length g.n; rw [List.length_map] at this; exact this
  have lk : (ATk T).length = T.length := by unfold ATk; rw [List.length_map]
  refine .good (ns := ns) (bs := ns.map fun _ => true) hd (by omega) (fun H' k => ⟨atk_keys g, by rw [List.length_map]; omega, fun i v b h1 h2 => ?_, len_words w⟩) ⟨by rw [lk, lT]; omega, ?_⟩
  · obtain ⟨x, hx, rfl⟩ := atk_at h1
    rw [List.getElem?_map] at h2
    have hb : b = true := by
      cases e : ns[i]? with
      | none => rw [e] at h2; cases h2
      | some z => rw [e] at h2; exact (Option.some.inj h2).symm
    subst hb
    have hm := List.mem_of_getElem? hx
    obtain ⟨g1, g2, g3⟩ := g.w x hm
    have hT := tm _ (List.mem_map.mpr ⟨x, hm, rfl⟩)
    have hT' := k _ _ hT (fun z => by have z : x.2.1 = d := z; rw [show x.2.1 = d from z] at hT; rw [hd] at hT; cases hT)
    have e := areW_of (m := 4) (fun z => by rw [z] at g2; exact absurd g2 (by decide)) (by omega) g1.w g1.n
    refine .asks rfl ?_
    rw [← e]
    exact .tup (SqT.of hT') (len_words g1.w) (by omega)
  · unfold tabOk
    rw [List.all_eq_true]
    intro x hx
    obtain ⟨i, hi⟩ := List.getElem?_of_mem hx
    rw [List.getElem?_zip_eq_some] at hi
    rw [w _ (List.mem_of_getElem? hi.1)]
    have := List.mem_of_getElem? hi.2
    obtain ⟨z, _, e⟩ := List.mem_map.mp this
    rw [← e]
    rfl
theorem sigs_arg {T : ST} {ns : List Str} (g : SGood T ns) (w : ∀ z ∈ ns, isWord z = true) (l : ns.length ≤ 2) {d : Addr} (hd : H d = some (.dK (STk T))) (tm : ∀ x ∈ STm T, H x.1 = some x.2) : TabArg K H "signals" 3 (.ref d) (some (STk T)) := by
  have lT : T.length = ns.length := by have := congrArg List.length g.n; rw [List.length_map] at this; exact this
  have lk : (STk T).length = T.length := by unfold STk; rw [List.length_map]
  refine .good (ns := ns) (bs := ns.map fun _ => true) hd (by omega) (fun H' k => ⟨stk_keys g, by rw [List.length_map]; omega, fun i v b h1 h2 => ?_, len_words w⟩) ⟨by rw [lk, lT]; omega, ?_⟩
  · obtain ⟨x, hx, rfl⟩ := stk_at h1
    rw [List.getElem?_map] at h2
    have hb : b = true := by
      cases e : ns[i]? with
      | none => rw [e] at h2; cases h2
      | some z => rw [e] at h2; exact (Option.some.inj h2).symm
    subst hb
    have hm := List.mem_of_getElem? hx
    obtain ⟨g1, g2, g3, g4, g5⟩ := g.w x hm
    have up : ∀ {y : Addr} {xs : List V}, H y = some (.tup xs) → H' y = some (.tup xs) := fun {y xs} q => k _ _ q (fun z => by have z : y = d := z; rw [z, hd] at q; cases q)
    have hT := up (tm _ (List.mem_append_left _ (List.mem_map.mpr ⟨x, hm, rfl⟩)))
    have hU := up (tm _ (List.mem_append_right _ (List.mem_map.mpr ⟨x, hm, rfl⟩)))
    have e := areW_of (m := 3) (fun z => by rw [z] at g2; exact absurd g2 (by decide)) (by omega) g1.w g1.n
    have e2 : (decide (1 ≤ ((x.2.2.1 : Nat) : Int)) && decide (((x.2.2.1 : Nat) : Int) ≤ 3)) = true := by
      rw [decide_eq_true (by omega), decide_eq_true (by omega)]
      rfl
    have w3 : WordsIs K H' 3 (.ref x.2.2.2.1) true := by
      rw [← e]
      exact .tup (SqT.of hU) (len_words g1.w) (by omega)
    have r3 : RoomIs (.int x.2.2.1) true := by
      rw [← e2]
      exact .int _
    exact .sig (br := true) (bw := true) (by decide +kernel) (SqT.of hT) r3 w3
  · unfold tabOk
    rw [List.all_eq_true]
    intro x hx
    obtain ⟨i, hi⟩ := List.getElem?_of_mem hx
    rw [List.getElem?_zip_eq_some] at hi
    rw [w _ (List.mem_of_getElem? hi.1)]
    have := List.mem_of_getElem? hi.2
    obtain ⟨z, _, e⟩ := List.mem_map.mp this
    rw [← e]
    rfl
end
def spLProg (K : PySem.W.Frag) : Sp := fun vs H Q _ => ∃ (kd : Addr) (kt : Kit) (a s i D : Addr) (xs : List V) (rows : List (Row 5)) (TA : AT) (TS : ST), vs = [.ref kd] ∧ LPlan K H kd kt a s i D xs rows TA TS ∧ LPlanIs kt rows TA TS ∧
  ∀ (H' Hr : Hp) (p dx : Addr), Same H H' → H p = none → DraftOk K Hr p dx (He.ga K "Program") kt.ka kt.ks (.ref i) 5 rows → Same Hr H' → (∀ x kvs, H x = some (.dK kvs) → Hr x = none) → Q (.ref p) H'
section
variable {P : Program} {w : World} {K : PySem.W.Frag} {mg : Str → Option Value} {base : Heap}
theorem ok_lprogram {k0 kp kc : Nat} {f : Addr} {fd : FuncData} (F : FnP K "_law_program" "_law_program" s__law_program f fd) (T : Tx w K mg) (hp : kp + 1 ≤ k0) (hc : kc ≤ k0) (cP : KwCls P w K mg base kp "Program" (He.ga K "Program") p_Program___init__ (spProgInit K 5)) (G__law_copy_rows : Def P w K mg base CX0 kc "_law_copy_rows" p__law_copy_rows (spCpRows K (dT 5))) : FnOk P w K mg base CX0 (k0 + 1) f fd p__law_program (spLProg K) := by
  obtain ⟨fp, fdp, mp, mkp, kbp, okp⟩ := cP.ex
  refine F.ok sc__law_program (fun vs H Q E h => ?_) (fun cdv A outer s H vs Q E hr h => ?_)
  · obtain ⟨kd, kt, a, s, i, D, xs, rows, TA, TS, rfl, _⟩ := h
    rfl
  · obtain ⟨kd, kt, a, s', i, D, xs, rows, TA, TS, rfl, pl, pi, k⟩ := h
    have hu := hu_of hr
    refine ⟨_, PSs.nox (pss_cons (ps_set (i := 1) sc__law_program.nd rfl (.inl rfl) (pe_fn G__law_copy_rows (hr.mono (by omega)) (by rfl) pass0 (pa_cons (pe_dget hu (pv 0) pe_str (fun _ _ => rfl)) pa_nil)))
      (pss_one (ps_ret (pe_makeKS (E := fun _ _ _ _ => False) (ks := kw3) (n := 1) mkp okp (hr.mono (by omega)) (by rfl) mp kbp (fun σ => passF) (pa_cons (pv 1) pa_nil) (pk_cons (pe_callTy call_dictD (by rfl) T.b_dict (by decide +kernel) (pa_cons (pe_dget hu (pv 0) pe_str (fun _ _ => rfl)) pa_nil)) (pk_cons (pe_callTy call_dictD (by rfl) T.b_dict (by decide +kernel) (pa_cons (pe_dget hu (pv 0) pe_str (fun _ _ => rfl)) pa_nil)) (pk_cons (pe_dget hu (pv 0) pe_str (fun _ _ => rfl)) pk_nil))))))), ?_⟩
    obtain ⟨⟨rm, g, l, sl, ww, ob⟩, ha, hs, hi, hD, hrows, tm⟩ := id pl
    have l14 : rows.length ≤ 14 := by have h1 := lsz_len (d := 5) (by decide) rows; have h2 := pi.few; omega
    refine ⟨_, rfl, kd, _, rfl, DGet.k (k := .inr "rows") ob, D, rows.map (rowT 5), xs, rfl, hD, All2.map (hrows.imp fun r v hm q => row_tr (good_few 5 false r (pi.good r hm)) q), by rw [List.length_map]; omega, fun H1 R ys S1 nR hR hys => ?_⟩
    have hrw : All2 (RowAt K (res (NL H) H1) 5) rows ys := hys.unmap.imp fun _ _ _ q => tr_row q
    refine ⟨_, rfl, _, rfl, kd, _, rfl, DGet.k (k := .inr "asks") (S1 _ _ ob), a, _, rfl, .inl (S1 _ _ ha), fun D1 n1 => ?_⟩
    have S2 : Same H1 (upd H1 D1 (.dK (ATk TA))) := Same.new n1
    have h1 : upd H1 D1 (.dK (ATk TA)) D1 = some (.dK (ATk TA)) := upd_same
    generalize upd H1 D1 (.dK (ATk TA)) = H2 at S2 h1 ⊢
    refine ⟨_, rfl, kd, _, rfl, DGet.k (k := .inr "signals") (S2 _ _ (S1 _ _ ob)), s', _, rfl, .inl (S2 _ _ (S1 _ _ hs)), fun D2 n2 => ?_⟩
    have S3 : Same H2 (upd H2 D2 (.dK (STk TS))) := Same.new n2
    have h2 : upd H2 D2 (.dK (STk TS)) D2 = some (.dK (STk TS)) := upd_same
    generalize upd H2 D2 (.dK (STk TS)) = H3 at S3 h2 ⊢
    have S13 : Same H1 H3 := S2.trans S3
    have S03 : Same H H3 := S1.trans S13
    refine ⟨_, rfl, kd, _, rfl, DGet.k (k := .inr "inputs") (S03 _ _ ob), rfl, rfl, fun x dx nx ndx nxd => ?_⟩
    have S4 : Same H3 (upd H3 dx (.own x)) := Same.new ndx
    have nx4 : upd H3 dx (.own x) x = none := by rw [upd_ne nxd.symm]; exact nx
    have S5 : Same H3 (upd (upd H3 dx (.own x)) x (.ins (He.ga K "Program") dx [])) := S4.trans (Same.new nx4)
    have hx : upd (upd H3 dx (.own x)) x (.ins (He.ga K "Program") dx []) x = some (.ins (He.ga K "Program") dx []) := upd_same
    have aa : TabArg K H3 "asks" 6 (.ref D1) (some kt.ka) := by
      rw [pi.ka]
      exact asks_arg pi.gA pi.wok.a.2.2 pi.la (S3 _ _ h1) fun x hx => S03 _ _ (tm x (List.mem_append_left _ hx))
    have ag : TabArg K H3 "signals" 3 (.ref D2) (some kt.ks) := by
      rw [pi.ks]
      exact sigs_arg pi.gS pi.wok.s.2 pi.ls h2 fun x hx => S03 _ _ (tm x (List.mem_append_right _ hx))
    have ai : ∀ H', Same H3 H' → WordsIs K H' 3 (.ref i) true := fun H' S' => by
      rw [← areW_of (m := 3) pi.nei (by have := pi.li; omega) pi.wi pi.ni]
      exact .tup (SqT.of (S' _ _ (S03 _ _ hi))) (len_words pi.wi) (by have := pi.li; omega)
    have hrw3 : All2 (RowAt K H3 5) rows ys := hrw.imp fun _ _ _ q => RowAt.mono (res_same.trans S13) q
    have go := good_out pi.ok pi.good pi.few
    generalize upd (upd H3 dx (.own x)) x (.ins (He.ga K "Program") dx []) = H5 at S5 hx ⊢
    refine ⟨x, dx, .ref R, .ref D1, .ref D2, .ref i, true, some kt.ka, some kt.ks, some rows, H3, rfl, hx, nx, S5, by decide, ⟨aa, ag, ai, good_rows pi.ok (S13 _ _ hR) hrw3 pi.good pi.few⟩, fun part path e => ?_, fun _ ka ks rows' ea es er H' sv dr => ?_⟩
    · rw [go] at e; cases e
    · cases ea; cases es; cases er
      refine ⟨rfl, k H' _ x dx (fun b o e => sv b o (S5 _ _ (S03 _ _ e)) (ne_of_none (S03 _ _ e) nx)) (S03.free nx) dr res_same fun y kvs e => ?_⟩
      have e5 := S5 _ _ (S03 _ _ e)
      cases z : res (Own H5 x) H' y with
      | none => rfl
      | some o =>
        obtain ⟨own, _⟩ := res_some z
        rcases own with own | rfl
        · exact (own.no e5 rfl).elim
        · exact absurd rfl (ne_of_none (S03 _ _ e) nx)
end
end OR

set_option Elab.async false
set_option maxRecDepth 100000
set_option maxHeartbeats 8000000
set_option linter.all false
namespace OR
open PySem PySem.Spec PyProof.Rows L2 TS2
/-- the same data, at most n deep -/
inductive SameV (K : PySem.W.Frag) (H : Hp) : Nat → V → V → Prop where
  | int {n : Nat} (i : Int) : SameV K H (n + 1) (.int i) (.int i)
  | str {n : Nat} (z : Str) : SameV K H (n + 1) (.str z) (.str z)
  | lst {n : Nat} {a b : Addr} {xs ys : List V} (ha : SqL K H a xs) (hb : SqL K H b ys) (few : xs.length ≤ 1000) (el : xs.length = ys.length) (h : ∀ (i : Nat) (x y : V), xs[i]? = some x → ys[i]? = some y → SameV K H n x y) : SameV K H (n + 1) (.ref a) (.ref b)
  | tup {n : Nat} {a b : Addr} {xs ys : List V} (ha : SqT K H a xs) (hb : SqT K H b ys) (few : xs.length ≤ 1000) (el : xs.length = ys.length) (h : ∀ (i : Nat) (x y : V), xs[i]? = some x → ys[i]? = some y → SameV K H n x y) : SameV K H (n + 1) (.ref a) (.ref b)
theorem SameV.same {K : PySem.W.Frag} {H H' : Hp} (e : Same H H') {n : Nat} {v w : V} (h : SameV K H n v w) : SameV K H' n v w := by
  induction h with
  | int i => exact .int i
  | str z => exact .str z
  | lst ha hb few el _ ih => exact .lst (e.seq ha) (e.seq hb) few el ih
  | tup ha hb few el _ ih => exact .tup (sameT e ha) (sameT e hb) few el ih
def spSame (K : PySem.W.Frag) (n : Nat) : Sp := fun vs H Q _ => ∃ v w, vs = [v, w] ∧ SameV K H n v w ∧ ∀ H', Same H H' → Q (.bl true) H'
theorem kitA {K : PySem.W.Frag} {t a b : Value} {x y : Bool} (h1 : PySem.W.kitOne K t a = some x) (h2 : PySem.W.kitOne K t b = some y) : PySem.W.kitAny K t [a, b] = some (x || y) := by
  simp only [PySem.W.kitAny, h1, h2]
  cases x <;> cases y <;> rfl
theorem same_of {K : PySem.W.Frag} {H : Hp} : ∀ {n : Nat} {t : Tr n} {u v : V}, TrAt K H n t u → TrAt K H n t v → SameV K H n u v
  | 0, t, _, _, _, _ => nomatch t
  | n + 1, .inl (.inl z), u, v, h1, h2 => by
    obtain ⟨rfl, _⟩ := h1
    obtain ⟨rfl, _⟩ := h2
    exact .str z
  | n + 1, .inl (.inr i), u, v, h1, h2 => by
    have h1 : u = .int i := h1
    have h2 : v = .int i := h2
    subst h1 h2
    exact .int i
  | n + 1, .inr (true, l), u, v, h1, h2 => by
    obtain ⟨a, xs, rfl, ha, hx, hl⟩ := h1
    obtain ⟨b, ys, rfl, hb, hy, _⟩ := h2
    refine .tup ha hb (by rw [← hx.len]; exact hl) (by rw [← hx.len, ← hy.len]) fun i x y ex ey => ?_
    obtain ⟨t, ht, q⟩ := hx.other ex
    obtain ⟨t', ht', q'⟩ := hy.other ey
    rw [ht] at ht'
    cases ht'
    exact same_of q q'
  | n + 1, .inr (false, l), u, v, h1, h2 => by
    obtain ⟨a, xs, rfl, ha, hx, hl⟩ := h1
    obtain ⟨b, ys, rfl, hb, hy, _⟩ := h2
    refine .lst (SqL.of ha) (SqL.of hb) (by rw [← hx.len]; exact hl) (by rw [← hx.len, ← hy.len]) fun i x y ex ey => ?_
    obtain ⟨t, ht, q⟩ := hx.other ex
    obtain ⟨t', ht', q'⟩ := hy.other ey
    rw [ht] at ht'
    cases ht'
    exact same_of q q'
section
variable {P : Program} {w : World} {K : PySem.W.Frag} {mg : Str → Option Value} {base : Heap}
theorem ok_same {n : Nat} {f : Addr} {fd : FuncData} (F : FnP K "_law_same" "_law_same" s__law_same f fd) (T : Tx w K mg) (G__law_same : Def P w K mg base CX0 n "_law_same" p__law_same (spSame K n)) : FnOk P w K mg base CX0 (n + 1) f fd p__law_same (spSame K (n + 1)) := by
  refine F.ok sc__law_same (fun vs H Q E h => ?_) (fun cdv A outer s H vs Q E hr h => ?_)
  · obtain ⟨v, w, rfl, _⟩ := h
    rfl
  · obtain ⟨v, w, rfl, hs, k⟩ := h
    refine ⟨_, PSs.nox (pss_cons (ps_if (pt_val (pe_callB call_isiT (by rfl) T.b_isinstance (by decide +kernel) (pa_cons (pv 1) (pa_cons (pe_tup (pa_cons (pe_bltn (v := .ty "tuple") (u := .type "tuple") (by rfl) T.b_tuple (by decide +kernel) rfl) (pa_cons (pe_bltn (v := .ty "list") (u := .type "list") (by rfl) T.b_list (by decide +kernel) rfl) pa_nil))) pa_nil)))) (pss_cons (ps_if (PW.pt (pw_or (pt_not (pt_val (pe_callB call_isiT (by rfl) T.b_isinstance (by decide +kernel) (pa_cons (pv 0) (pa_cons (pe_tup (pa_cons (pe_bltn (v := .ty "tuple") (u := .type "tuple") (by rfl) T.b_tuple (by decide +kernel) rfl) (pa_cons (pe_bltn (v := .ty "list") (u := .type "list") (by rfl) T.b_list (by decide +kernel) rfl) pa_nil))) pa_nil))))) (pw_or1 (pt_cmpR op_ne (pe_callB call_len_seq (by rfl) T.b_len PySem.boot_len (pa_cons (pv 0) pa_nil)) (pe_callB call_len_seq (by rfl) T.b_len PySem.boot_len (pa_cons (pv 1) pa_nil)) (nomark _))))) (pss_one (ps_ret pe_bl)) pss_nil)
      (pss_cons (ps_if (pt_cmpR op_ne (pe_callB call_isi (by rfl) T.b_isinstance (by decide +kernel) (pa_cons (pv 0) (pa_cons (pe_bltn (v := .ty "tuple") (u := .type "tuple") (by rfl) T.b_tuple (by decide +kernel) rfl) pa_nil))) (pe_callB call_isi (by rfl) T.b_isinstance (by decide +kernel) (pa_cons (pv 1) (pa_cons (pe_bltn (v := .ty "tuple") (u := .type "tuple") (by rfl) T.b_tuple (by decide +kernel) rfl) pa_nil))) (nomark _)) (pss_one (ps_ret pe_bl)) pss_nil)
      (pss_one (ps_ret (pe_cmpR op_notIn_seq pe_bl (pe_lc (own := [("_law_k", 2)]) (g := (gName 2)) (by rfl) sc__law_same.nd (pi_range1 (by rfl) T.b_range (pa_cons (pe_callB call_len_seq (by rfl) T.b_len PySem.boot_len (pa_cons (pv 1) pa_nil)) pa_nil)) (blkOk_by (N := n__law_same) (sc := defScope s__law_same) (by decide +kernel)) (fun _ _ _ _ _ => (pg_name (i := 2) sc__law_same.nd rfl (.inl rfl))) (fun _ _ _ _ _ => pts_nil) (fun _ _ _ _ _ => (pe_fn G__law_same (hr.mono (by omega)) (by rfl) pass0 (pa_cons (pe_ix (show IxR _ (rIx K) from ix_seq) (pv 0) (pv 2) (fun _ _ => rfl)) (pa_cons (pe_ix (show IxR _ (rIx K) from ix_seq) (pv 1) (pv 2) (fun _ _ => rfl)) pa_nil))))) (by rfl)))))) pss_nil)
      (pss_cons (ps_if (PW.pt (pw_or (pt_cmpR op_isN (pv 1) pe_non (nomark _)) (pw_or1 (pt_cmpR op_isN (pv 0) pe_non (nomark _))))) (pss_one (ps_ret (pe_and (pe_cmpR op_isN (pv 1) pe_non (nomark _)) (pe_one (pe_cmpR op_isN (pv 0) pe_non (nomark _)))))) pss_nil)
      (pss_cons (ps_if (pt_cmpR op_ne (pe_callB call_isi (by rfl) T.b_isinstance (by decide +kernel) (pa_cons (pv 0) (pa_cons (pe_bltn (v := .ty "bool") (u := .type "bool") (by rfl) T.b_bool (by decide +kernel) rfl) pa_nil))) (pe_callB call_isi (by rfl) T.b_isinstance (by decide +kernel) (pa_cons (pv 1) (pa_cons (pe_bltn (v := .ty "bool") (u := .type "bool") (by rfl) T.b_bool (by decide +kernel) rfl) pa_nil))) (nomark _)) (pss_one (ps_ret pe_bl)) pss_nil)
      (pss_cons (ps_if (pt_cmpR op_ne (pe_callB call_isi (by rfl) T.b_isinstance (by decide +kernel) (pa_cons (pv 0) (pa_cons (pe_bltn (v := .ty "str") (u := .type "str") (by rfl) T.b_str (by decide +kernel) rfl) pa_nil))) (pe_callB call_isi (by rfl) T.b_isinstance (by decide +kernel) (pa_cons (pv 1) (pa_cons (pe_bltn (v := .ty "str") (u := .type "str") (by rfl) T.b_str (by decide +kernel) rfl) pa_nil))) (nomark _)) (pss_one (ps_ret pe_bl)) pss_nil)
      (pss_one (ps_ret (pe_and (pe_callB call_isiT (by rfl) T.b_isinstance (by decide +kernel) (pa_cons (pv 0) (pa_cons (pe_tup (pa_cons (pe_bltn (v := .ty "int") (u := .type "int") (by rfl) T.b_int (by decide +kernel) rfl) (pa_cons (pe_bltn (v := .ty "str") (u := .type "str") (by rfl) T.b_str (by decide +kernel) rfl) pa_nil))) pa_nil))) (pe_one (pe_cmpR op_eq (pv 0) (pv 1) (nomark _)))))))))), ?_⟩
    cases hs with
    | int i =>
      refine ⟨_, rfl, by show 2 ≤ sizeLine; decide, fun tp ntp => ⟨.int i, tp, _, _, _, _, rfl, upd_same, .cons (.ty "tuple") (.cons (.ty "list") .nil), .base (.int i), kitA (x := false) (y := false) (kit_ty (by decide +kernel)) (kit_ty (by decide +kernel)), _, rfl, ?_⟩⟩
      refine iteF ?_
      refine ⟨_, rfl, rfl, _, rfl, ?_⟩
      refine iteF ⟨_, rfl, rfl, _, rfl, ?_⟩
      refine iteF ?_
      refine ⟨_, rfl, .int i, .ty "bool", _, _, false, rfl, .ty _, .base (.int i), kit_ty (by decide +kernel), _, rfl, .int i, .ty "bool", _, _, false, rfl, .ty _, .base (.int i), kit_ty (by decide +kernel), rfl, _, rfl, ?_⟩
      refine iteF ?_
      refine ⟨_, rfl, .int i, .ty "str", _, _, false, rfl, .ty _, .base (.int i), kit_ty (by decide +kernel), _, rfl, .int i, .ty "str", _, _, false, rfl, .ty _, .base (.int i), kit_ty (by decide +kernel), rfl, _, rfl, ?_⟩
      refine iteF ?_
      refine ⟨_, rfl, by show 2 ≤ sizeLine; decide, fun tq ntq => ⟨.int i, tq, _, _, _, _, rfl, upd_same, .cons (.ty "int") (.cons (.ty "str") .nil), .base (.int i), kitA (x := true) (y := false) (kit_ty (by decide +kernel)) (kit_ty (by decide +kernel)), _, rfl, ?_⟩⟩
      refine iteT ⟨_, rfl, _, rfl, rfl, ?_⟩
      show Q (.bl (decide (V.int i = V.int i))) _
      rw [decide_eq_true rfl]
      exact k _ ((Same.new ntp).trans (Same.new ntq))
    | str z =>
      refine ⟨_, rfl, by show 2 ≤ sizeLine; decide, fun tp ntp => ⟨.str z, tp, _, _, _, _, rfl, upd_same, .cons (.ty "tuple") (.cons (.ty "list") .nil), .base (.str z), kitA (x := false) (y := false) (kit_ty (by decide +kernel)) (kit_ty (by decide +kernel)), _, rfl, ?_⟩⟩
      refine iteF ?_
      refine ⟨_, rfl, rfl, _, rfl, ?_⟩
      refine iteF ⟨_, rfl, rfl, _, rfl, ?_⟩
      refine iteF ?_
      refine ⟨_, rfl, .str z, .ty "bool", _, _, false, rfl, .ty _, .base (.str z), kit_ty (by decide +kernel), _, rfl, .str z, .ty "bool", _, _, false, rfl, .ty _, .base (.str z), kit_ty (by decide +kernel), rfl, _, rfl, ?_⟩
      refine iteF ?_
      refine ⟨_, rfl, .str z, .ty "str", _, _, true, rfl, .ty _, .base (.str z), kit_ty (by decide +kernel), _, rfl, .str z, .ty "str", _, _, true, rfl, .ty _, .base (.str z), kit_ty (by decide +kernel), rfl, _, rfl, ?_⟩
      refine iteF ?_
      refine ⟨_, rfl, by show 2 ≤ sizeLine; decide, fun tq ntq => ⟨.str z, tq, _, _, _, _, rfl, upd_same, .cons (.ty "int") (.cons (.ty "str") .nil), .base (.str z), kitA (x := false) (y := true) (kit_ty (by decide +kernel)) (kit_ty (by decide +kernel)), _, rfl, ?_⟩⟩
      refine iteT ⟨_, rfl, _, rfl, rfl, ?_⟩
      show Q (.bl (decide (V.str z = V.str z))) _
      rw [decide_eq_true rfl]
      exact k _ ((Same.new ntp).trans (Same.new ntq))
    | lst ha hb few el hh =>
      rename_i a b xs ys
      refine ⟨_, rfl, by show 2 ≤ sizeLine; decide, fun tp ntp => ⟨.ref b, tp, _, _, _, _, rfl, upd_same, .cons (.ty "tuple") (.cons (.ty "list") .nil), tyL ((Same.new ntp).seq hb), kitA (x := false) (y := true) (kit_ty (by decide +kernel)) (kit_ty (by decide +kernel)), _, rfl, ?_⟩⟩
      have S1 : Same H (upd H tp (.tup [V.ty "tuple", V.ty "list"])) := Same.new ntp
      generalize upd H tp (.tup [V.ty "tuple", V.ty "list"]) = H1 at S1
      refine iteT ⟨_, rfl, by show 2 ≤ sizeLine; decide, fun tq ntq => ⟨.ref a, tq, _, _, _, _, rfl, upd_same, .cons (.ty "tuple") (.cons (.ty "list") .nil), tyL ((S1.trans (Same.new ntq)).seq ha), kitA (x := false) (y := true) (kit_ty (by decide +kernel)) (kit_ty (by decide +kernel)), _, rfl, ?_⟩⟩
      have S2 : Same H (upd H1 tq (.tup [V.ty "tuple", V.ty "list"])) := S1.trans (Same.new ntq)
      generalize upd H1 tq (.tup [V.ty "tuple", V.ty "list"]) = H2 at S2
      have ha2 := S2.seq ha
      have hb2 := S2.seq hb
      refine iteF ⟨_, rfl, a, _, rfl, .inl ha2, _, rfl, b, _, rfl, .inl hb2, rfl, _, rfl, ?_⟩
      refine iteF' (by rw [el, decide_eq_true rfl]; rfl) ?_
      refine ⟨_, rfl, .ref a, .ty "tuple", _, _, false, rfl, .ty _, tyL ha2, kit_ty (by decide +kernel), _, rfl, .ref b, .ty "tuple", _, _, false, rfl, .ty _, tyL hb2, kit_ty (by decide +kernel), rfl, _, rfl, ?_⟩
      refine iteF ?_
      refine ⟨_, rfl, b, _, rfl, .inl hb2, (ys.length : Int), rfl, by omega, by omega, fun D nD => ?_⟩
      have SD := S2.trans (Same.new (o := .lst []) nD)
      refine lc_range (lo := 0) (n := ys.length) (fun i H3 => Same H2 H3 ∧ H3 D = some (.lst ((List.replicate i true).map V.bl))) ⟨Same.new nD, upd_same⟩ (fun i H3 hi q => ?_) (fun H3 q => ?_)
      · obtain ⟨S3, hD⟩ := q
        refine ⟨rfl, ?_⟩
        refine tYes_ ?_
        refine iteT ?_
        have e0 : (0 + (i : Int)) = (i : Int) := by omega
        have hx : xs[i]? = some (xs[i]'(by omega)) := List.getElem?_eq_getElem (by omega)
        have hy : ys[i]? = some ys[i] := List.getElem?_eq_getElem hi
        refine ⟨_, rfl, _, rfl, .inl ⟨a, xs, _, _, rfl, rfl, (S2.trans S3).seq ha, (by rw [e0]; exact atI_nat hx), _, rfl, _, rfl, .inl ⟨b, ys, _, _, rfl, rfl, (S2.trans S3).seq hb, (by rw [e0]; exact atI_nat hy), ?_⟩⟩⟩
        refine ⟨_, _, rfl, (hh i _ _ hx hy).same (S2.trans S3), fun H4 S4 => ⟨_, S4 _ _ hD, small1000 (by rw [List.length_map, List.length_replicate]; omega), fun x o hx0 => ?_, ?_⟩⟩
        · rw [upd_ne (ne_of_none hx0 nD)]
          exact S4 _ _ (S3 _ _ hx0)
        · rw [upd_same, List.replicate_succ', List.map_append]
          rfl
      · obtain ⟨S3, hD⟩ := q
        refine ⟨D, _, rfl, .inl (SqL.of hD), rfl, ?_, ?_⟩
        · rw [List.all_map]
          simp [flatV]
        · have e : (!inV (.bl false) ((List.replicate ys.length true).map V.bl)) = true := by
            rw [inV, List.any_map]
            simp [eqV]
          show Q (.bl (!inV (.bl false) ((List.replicate ys.length true).map V.bl))) H3
          rw [e]
          exact k _ (S2.trans S3)
    | tup ha hb few el hh =>
      rename_i a b xs ys
      refine ⟨_, rfl, by show 2 ≤ sizeLine; decide, fun tp ntp => ⟨.ref b, tp, _, _, _, _, rfl, upd_same, .cons (.ty "tuple") (.cons (.ty "list") .nil), tyT (sameT (Same.new ntp) hb), kitA (x := true) (y := false) (kit_ty (by decide +kernel)) (kit_ty (by decide +kernel)), _, rfl, ?_⟩⟩
      have S1 : Same H (upd H tp (.tup [V.ty "tuple", V.ty "list"])) := Same.new ntp
      generalize upd H tp (.tup [V.ty "tuple", V.ty "list"]) = H1 at S1
      refine iteT ⟨_, rfl, by show 2 ≤ sizeLine; decide, fun tq ntq => ⟨.ref a, tq, _, _, _, _, rfl, upd_same, .cons (.ty "tuple") (.cons (.ty "list") .nil), tyT (sameT (S1.trans (Same.new ntq)) ha), kitA (x := true) (y := false) (kit_ty (by decide +kernel)) (kit_ty (by decide +kernel)), _, rfl, ?_⟩⟩
      have S2 : Same H (upd H1 tq (.tup [V.ty "tuple", V.ty "list"])) := S1.trans (Same.new ntq)
      generalize upd H1 tq (.tup [V.ty "tuple", V.ty "list"]) = H2 at S2
      have ha2 := sameT S2 ha
      have hb2 := sameT S2 hb
      refine iteF ⟨_, rfl, a, _, rfl, .inr ha2, _, rfl, b, _, rfl, .inr hb2, rfl, _, rfl, ?_⟩
      refine iteF' (by rw [el, decide_eq_true rfl]; rfl) ?_
      refine ⟨_, rfl, .ref a, .ty "tuple", _, _, true, rfl, .ty _, tyT ha2, kit_ty (by decide +kernel), _, rfl, .ref b, .ty "tuple", _, _, true, rfl, .ty _, tyT hb2, kit_ty (by decide +kernel), rfl, _, rfl, ?_⟩
      refine iteF ?_
      refine ⟨_, rfl, b, _, rfl, .inr hb2, (ys.length : Int), rfl, by omega, by omega, fun D nD => ?_⟩
      have SD := S2.trans (Same.new (o := .lst []) nD)
      refine lc_range (lo := 0) (n := ys.length) (fun i H3 => Same H2 H3 ∧ H3 D = some (.lst ((List.replicate i true).map V.bl))) ⟨Same.new nD, upd_same⟩ (fun i H3 hi q => ?_) (fun H3 q => ?_)
      · obtain ⟨S3, hD⟩ := q
        refine ⟨rfl, ?_⟩
        refine tYes_ ?_
        refine iteT ?_
        have e0 : (0 + (i : Int)) = (i : Int) := by omega
        have hx : xs[i]? = some (xs[i]'(by omega)) := List.getElem?_eq_getElem (by omega)
        have hy : ys[i]? = some ys[i] := List.getElem?_eq_getElem hi
        refine ⟨_, rfl, _, rfl, .inr <| .inl ⟨a, xs, _, _, rfl, rfl, sameT (S2.trans S3) ha, (by rw [e0]; exact atI_nat hx), _, rfl, _, rfl, .inr <| .inl ⟨b, ys, _, _, rfl, rfl, sameT (S2.trans S3) hb, (by rw [e0]; exact atI_nat hy), ?_⟩⟩⟩
        refine ⟨_, _, rfl, (hh i _ _ hx hy).same (S2.trans S3), fun H4 S4 => ⟨_, S4 _ _ hD, small1000 (by rw [List.length_map, List.length_replicate]; omega), fun x o hx0 => ?_, ?_⟩⟩
        · rw [upd_ne (ne_of_none hx0 nD)]
          exact S4 _ _ (S3 _ _ hx0)
        · rw [upd_same, List.replicate_succ', List.map_append]
          rfl
      · obtain ⟨S3, hD⟩ := q
        refine ⟨D, _, rfl, .inl (SqL.of hD), rfl, ?_, ?_⟩
        · rw [List.all_map]
          simp [flatV]
        · have e : (!inV (.bl false) ((List.replicate ys.length true).map V.bl)) = true := by
            rw [inV, List.any_map]
            simp [eqV]
          show Q (.bl (!inV (.bl false) ((List.replicate ys.length true).map V.bl))) H3
          rw [e]
          exact k _ (S2.trans S3)
end
end OR

set_option Elab.async false
set_option maxRecDepth 100000
set_option maxHeartbeats 8000000
set_option linter.all false
namespace OR
open PySem PySem.Spec PyProof.Rows L2 TS2
theorem both_fs : fsOf "both" = (["sides"] : List Str) := by decide +kernel
theorem no_sides : ∀ e ∈ ftab, e.1 ≠ "both" → ("sides" : Str) ∉ e.2 := by decide +kernel
theorem lo_both {kt : Kit} {il : Bool} {R : Type} {ps : List (Pt R)} (h : LocalOk kt il "both" ps) : ∃ ls, ps = [.sides ls] ∧ kids ps = ls := by
  have p := h.p
  rw [both_fs] at p
  cases p with
  | cons h1 t =>
    cases t
    rename_i x
    cases x with
    | word z => exact absurd rfl h1.2.2.2.2.2.2.2.2.2.2.1
    | words l => rcases h1.1 with e | e <;> exact absurd e (by decide +kernel)
    | rows l => exact absurd h1.1 (by decide +kernel)
    | sides ls => exact ⟨ls, rfl, by unfold kids; simp [kidsP]⟩
theorem lo_none {kt : Kit} {il : Bool} {R : Type} {w : Str} {ps : List (Pt R)} (h : LocalOk kt il w ps) (n : w ≠ "both") : ∀ p ∈ ps, ∀ ls, p ≠ .sides ls := fun p hp ls e => by
  obtain ⟨i, hi⟩ := List.getElem?_of_mem hp
  obtain ⟨f, hf, hg⟩ := h.p.other hi
  rw [e] at hg
  have := hg.1
  exact no_sides _ h.f n (by rw [← this]; exact List.mem_of_getElem? hf)
theorem kids_more {R : Type} {ps : List (Pt R)} {i : Nat} {p : Pt R} (h : ps[i]? = some p) : kids (ps.take (i + 1)) = kids (ps.take i) ++ kidsP p := by
  rw [take_more h, kids_app]
  show _ ++ kids [p] = _
  unfold kids
  simp
def spLLists (K : PySem.W.Frag) (d : Nat) : Sp := fun vs H Q _ => ∃ (v : V) (r : Row (d + 1)) (Hs : Hp), vs = [v] ∧ Same Hs H ∧ RowAt K Hs (d + 1) r v ∧ (∃ kt il, LocalOk kt il r.1 r.2) ∧
  ∀ (H' : Hp) (D : Addr) (Ls : List V), Same H H' → H D = none → H' D = some (.lst Ls) → All2 (LstAt Hs (RowAt K Hs d)) (kids r.2) Ls → Q (.ref D) H'
section
variable {P : Program} {w : World} {K : PySem.W.Frag} {mg : Str → Option Value} {base : Heap}
theorem ok_llists {d : Nat} {f : Addr} {fd : FuncData} (F : FnP K "_law_lists" "_law_lists" s__law_lists f fd) (T : Tx w K mg) : FnOk P w K mg base CX0 1 f fd p__law_lists (spLLists K d) := by
  refine F.ok sc__law_lists (fun vs H Q E h => ?_) (fun cdv A outer s H vs Q E hr h => ?_)
  · obtain ⟨v, r, Hs, rfl, _⟩ := h
    rfl
  · obtain ⟨v, r, Hs, rfl, S0, hv, ⟨kt, il, lo⟩, k⟩ := h
    refine ⟨_, PSs.nox (pss_cons (ps_if (pt_cmpR op_eq (pe_ix ix_tup (pv 0) pe_int (fun _ _ => rfl)) pe_str (nomark _)) (pss_one (ps_ret (pe_callTy call_list_of (by rfl) T.b_list (by decide +kernel) (pa_cons (pe_ix ix_tup (pv 0) pe_int (fun _ _ => rfl)) pa_nil)))) pss_nil)
      (pss_one (ps_ret (pe_lc (own := [("_law_part", 1)]) (g := (gName 1)) (by rfl) sc__law_lists.nd (pi_tup (pv 0)) (blkOk_by (N := n__law_lists) (sc := defScope s__law_lists) (by decide +kernel)) (fun _ _ _ _ _ => (pg_name (i := 1) sc__law_lists.nd rfl (.inl rfl))) (fun _ _ _ _ _ => (pts_one (pt_val (pe_callB (show CallR _ (.builtin "isinstance") (rIsi K) from call_isi) (by rfl) T.b_isinstance (by decide +kernel) (pa_cons (pv 1) (pa_cons (pe_bltn (v := .ty "list") (u := .type "list") (by rfl) T.b_list (by decide +kernel) rfl) pa_nil)))))) (fun _ _ _ _ _ => (pv 1)))))), ?_⟩
    obtain ⟨w, ps⟩ := r
    obtain ⟨a, vs, rfl, ha0, hx⟩ := hv
    dsimp only at ha0 hx lo k
    have ha := sameT S0 ha0
    refine ⟨_, rfl, a, _, 0, .str w, rfl, rfl, ha, at0, rfl, _, rfl, ?_⟩
    by_cases eb : w = "both"
    · subst eb
      refine iteT' (decide_eq_true rfl) ?_
      obtain ⟨ls, rfl, ek⟩ := lo_both lo
      cases hx with
      | cons h1 t =>
      cases t
      obtain ⟨q, xs, rfl, hq, hl⟩ := h1
      refine ⟨_, rfl, a, _, 1, .ref q, rfl, rfl, ha, at1, q, xs, rfl, .inr (sameT S0 hq), fun D nD => ?_⟩
      exact k _ D xs (Same.new nD) nD upd_same (by rw [ek]; exact hl)
    · refine iteF' (decide_eq_false fun z => eb (V.str.inj z)) ?_
      have ns := lo_none lo eb
      have lp : ps.length ≤ 4 := (lo_kids lo).1
      refine ⟨_, rfl, a, rfl, ⟨_, ha⟩, fun D nD => ?_⟩
      refine lc_it (walk_tup (K := K) (a := a) (xs := .str w :: vs)) (fun i H' => Same H H' ∧ ∃ Ls, H' D = some (.lst Ls) ∧ All2 (LstAt Hs (RowAt K Hs d)) (kids (ps.take (i - 1))) Ls) ⟨Same.new nD, [], upd_same, .nil⟩ (fun i H' _ q => sameT q.1 ha) (fun i x H1 H2 hi q y => ?_) (fun H1 q => ?_)
      · obtain ⟨rfl, hx1⟩ := y
        obtain ⟨S1, Ls, hD, hLs⟩ := q
        refine ⟨rfl, ?_⟩
        cases i with
        | zero =>
          cases Option.some.inj hx1
          refine ⟨_, rfl, .str w, .ty "list", _, _, false, rfl, .ty _, .base (.str w), kit_ty (by decide +kernel), _, rfl, ?_⟩
          refine iteF ?_
          exact ⟨S1, Ls, hD, hLs⟩
        | succ j =>
          have hj : vs[j]? = some x := hx1
          obtain ⟨p, hp, hpt⟩ := hx.other hj
          have hm := List.mem_of_getElem? hp
          have e1 : j + 1 + 1 - 1 = j + 1 := by omega
          have e0 : j + 1 - 1 = j := by omega
          rw [e0] at hLs
          cases p with
          | word z =>
            have hpt : x = .str z := hpt
            subst hpt
            refine ⟨_, rfl, .str z, .ty "list", _, _, false, rfl, .ty _, .base (.str z), kit_ty (by decide +kernel), _, rfl, ?_⟩
            refine iteF ?_
            refine ⟨S1, Ls, hD, ?_⟩
            rw [e1, kids_more hp]
            simpa [kidsP] using hLs
          | words l =>
            obtain ⟨q, rfl, hq⟩ := hpt
            refine ⟨_, rfl, .ref q, .ty "list", _, _, false, rfl, .ty _, tyT (sameT (S0.trans S1) hq), kit_ty (by decide +kernel), _, rfl, ?_⟩
            refine iteF ?_
            refine ⟨S1, Ls, hD, ?_⟩
            rw [e1, kids_more hp]
            simpa [kidsP] using hLs
          | rows l =>
            obtain ⟨q, xs, rfl, hq, hl⟩ := id hpt
            refine ⟨_, rfl, .ref q, .ty "list", _, _, true, rfl, .ty _, tyL (SqL.of (S1 _ _ (S0 _ _ hq))), kit_ty (by decide +kernel), _, rfl, ?_⟩
            refine iteT ?_
            refine ⟨_, rfl, Ls, hD, small1000 ?_, fun c o hc => ?_, Ls ++ [.ref q], upd_same, ?_⟩
            · have h1 := hLs.len
              have h2 := kids_take_le ps j
              have h3 := (lo_kids lo).2.1
              omega
            · rw [upd_ne (ne_of_none hc nD)]
              exact S1 _ _ hc
            · rw [e1, kids_more hp]
              exact hLs.app (All2.one hpt)
          | sides ls => exact absurd rfl (ns _ hm ls)
      · obtain ⟨S1, Ls, hD, hLs⟩ := q
        have e : (V.str w :: vs).length - 1 = ps.length := by rw [List.length_cons, ← hx.len]; omega
        rw [e, List.take_length] at hLs
        exact k _ D Ls S1 nD hD hLs
end
end OR

set_option Elab.async false
set_option maxRecDepth 100000
set_option maxHeartbeats 4000000
set_option linter.all false
namespace OR
open PySem PySem.Spec PyProof.Rows L2 TS2
theorem pS_app {R : Type} {g : R → List Int → List (List Int)} {pre : List Int} : ∀ (a b : List R) (j : Nat), pS g pre (a ++ b) j = pS g pre a j ++ pS g pre b (j + a.length)
  | [], b, j => rfl
  | x :: a, b, j => by
    show g x (pre ++ [(j : Int)]) ++ pS g pre (a ++ b) (j + 1) = (g x (pre ++ [(j : Int)]) ++ pS g pre a (j + 1)) ++ _
    rw [pS_app a b (j + 1), List.append_assoc, List.length_cons, show j + 1 + a.length = j + (a.length + 1) by omega]
theorem pK_app {R : Type} {f : List R → List Int → List (List Int)} {path : List Int} : ∀ (a b : List (List R)) (j : Nat), pK f path (a ++ b) j = pK f path a j ++ pK f path b (j + a.length)
  | [], b, j => rfl
  | x :: a, b, j => by
    show f x (path ++ [(j : Int)]) ++ pK f path (a ++ b) (j + 1) = (f x (path ++ [(j : Int)]) ++ pK f path a (j + 1)) ++ _
    rw [pK_app a b (j + 1), List.append_assoc, List.length_cons, show j + 1 + a.length = j + (a.length + 1) by omega]
theorem pS_more {R : Type} {g : R → List Int → List (List Int)} {pre : List Int} {rows : List R} {i : Nat} {r : R} (h : rows[i]? = some r) : pS g pre (rows.take (i + 1)) 0 = pS g pre (rows.take i) 0 ++ g r (pre ++ [(i : Int)]) := by
  have hi : i < rows.length := (List.getElem?_eq_some_iff.mp h).1
  rw [take_more h, pS_app, List.length_take, Nat.min_eq_left (by omega), Nat.zero_add]
  show _ ++ (g r (pre ++ [(i : Int)]) ++ []) = _
  rw [List.append_nil]
theorem pK_more {R : Type} {f : List R → List Int → List (List Int)} {path : List Int} {ls : List (List R)} {i : Nat} {l : List R} (h : ls[i]? = some l) : pK f path (ls.take (i + 1)) 0 = pK f path (ls.take i) 0 ++ f l (path ++ [(i : Int)]) := by
  have hi : i < ls.length := (List.getElem?_eq_some_iff.mp h).1
  rw [take_more h, pK_app, List.length_take, Nat.min_eq_left (by omega), Nat.zero_add]
  show _ ++ (f l (path ++ [(i : Int)]) ++ []) = _
  rw [List.append_nil]
theorem pK_len {R : Type} {f : List R → List Int → List (List Int)} {s : List R → Nat} {path : List Int} : ∀ (ls : List (List R)) (j : Nat), (∀ l ∈ ls, ∀ p, (f l p).length = s l) → (pK f path ls j).length = (ls.map s).sum
  | [], j, _ => rfl
  | l :: ls, j, h => by
    show (f l (path ++ [(j : Int)]) ++ pK f path ls (j + 1)).length = _
    rw [List.length_append, h l List.mem_cons_self, pK_len ls (j + 1) fun x hx => h x (List.mem_cons_of_mem _ hx), List.map_cons, List.sum_cons]
theorem pS_len {R : Type} {g : R → List Int → List (List Int)} {s : R → Nat} {pre : List Int} : ∀ (rs : List R) (j : Nat), (∀ r ∈ rs, ∀ p, (g r p).length = s r) → (pS g pre rs j).length = (rs.map s).sum
  | [], j, _ => rfl
  | r :: rs, j, h => by
    show (g r (pre ++ [(j : Int)]) ++ pS g pre rs (j + 1)).length = _
    rw [List.length_append, h r List.mem_cons_self, pS_len rs (j + 1) fun x hx => h x (List.mem_cons_of_mem _ hx), List.map_cons, List.sum_cons]
theorem pathsR_len : ∀ (d : Nat) (r : Row d) (path : List Int), (pathsR d r path).length = rsz d r
  | 0, r, _ => nomatch r
  | d + 1, r, path => by
    show (pK (fun l pre => pS (pathsR d) pre l 0) path (kids r.2) 0).length + 1 = 1 + ((kids r.2).map fun l => (l.map (rsz d)).sum).sum
    rw [pK_len (s := fun l => (l.map (rsz d)).sum) (kids r.2) 0 fun l _ p => pS_len l 0 fun r' _ p' => pathsR_len d r' p']
    omega
theorem sum_take_le : ∀ (l : List Nat) (i : Nat), (l.take i).sum ≤ l.sum
  | [], i => by simp
  | x :: l, 0 => by simp
  | x :: l, i + 1 => by
    rw [List.take_succ_cons, List.sum_cons, List.sum_cons]
    have := sum_take_le l i
    omega
theorem lsz_take {d : Nat} (rows : List (Row d)) (i : Nat) : lsz d (rows.take i) ≤ lsz d rows := by
  unfold lsz
  rw [List.map_take]
  exact sum_take_le _ _
theorem lsz_take1 {d : Nat} {rows : List (Row d)} {i : Nat} {r : Row d} (h : rows[i]? = some r) : lsz d (rows.take i) + rsz d r ≤ lsz d rows := by
  have h1 := lsz_take rows (i + 1)
  unfold lsz at h1 ⊢
  rw [take_more h, List.map_append, List.sum_append] at h1
  simpa using h1
theorem kid_le {d : Nat} {r : Row (d + 1)} {l : List (Row d)} (h : l ∈ kids r.2) : lsz d l + 1 ≤ rsz (d + 1) r := by
  have : ∀ (ls : List (List (Row d))), l ∈ ls → lsz d l ≤ (ls.map fun l => (l.map (rsz d)).sum).sum := by
    intro ls
    induction ls with
    | nil => intro h; cases h
    | cons x ls ih =>
      intro h
      rw [List.map_cons, List.sum_cons]
      rcases List.mem_cons.mp h with rfl | h
      · show lsz d l ≤ lsz d l + _
        omega
      · have := ih h
        omega
  have := this _ h
  show _ ≤ 1 + ((kids r.2).map fun l => (l.map (rsz d)).sum).sum
  omega
theorem kids_take_sum {d : Nat} {r : Row (d + 1)} (j : Nat) : (((kids r.2).take j).map fun l => (l.map (rsz d)).sum).sum + 1 ≤ rsz (d + 1) r := by
  have := sum_take_le ((kids r.2).map fun l => (l.map (rsz d)).sum) j
  rw [← List.map_take] at this
  show _ ≤ 1 + ((kids r.2).map fun l => (l.map (rsz d)).sum).sum
  omega
end OR

set_option Elab.async false
set_option maxRecDepth 100000
set_option maxHeartbeats 8000000
set_option linter.all false
namespace OR
open PySem PySem.Spec PyProof.Rows L2 TS2
theorem catA_ints {K : PySem.W.Frag} {H : Hp} {a b : Addr} {xs ys : List Int} {Q : VK} (ha : H a = some (.tup (xs.map V.int))) (hb : H b = some (.tup (ys.map V.int))) (l : xs.length + ys.length ≤ 1000) (k : ∀ (p : Addr) (H' : Hp), Same H H' → H' p = some (.tup ((xs ++ ys).map V.int)) → Q (.ref p) H') : rCatA K (.ref a) (.ref b) H Q := by
  refine ⟨a, b, xs.map V.int, ys.map V.int, rfl, rfl, SqT.of ha, SqT.of hb, by rw [List.length_map, List.length_map, sizeLine_eq]; omega, fun e => ?_, fun _ e => ?_, fun _ _ p np => ?_⟩
  · have : xs = [] := List.map_eq_nil_iff.mp e
    subst this
    exact k b H (Same.refl H) hb
  · have : ys = [] := List.map_eq_nil_iff.mp e
    subst this
    exact k a H (Same.refl H) (by rw [List.append_nil]; exact ha)
  · rw [← List.map_append]
    exact k p _ (Same.new np) upd_same
def spLPaths (K : PySem.W.Frag) : Nat → Sp
  | 0 => fun _ _ _ _ => False
  | d + 1 => fun vs H Q _ => ∃ (R t : Addr) (xs : List V) (rows : List (Row (d + 1))) (pre : List Int) (kt : Kit) (il : Bool), vs = [.ref R, .ref t] ∧ H R = some (.lst xs) ∧ All2 (RowAt K H (d + 1)) rows xs ∧ (∀ r ∈ rows, Good kt (d + 1) il r) ∧ lsz (d + 1) rows ≤ 14 ∧ H t = some (.tup (pre.map V.int)) ∧ pre.length + 2 * (d + 1) ≤ 100 ∧
    ∀ (H' : Hp) (D : Addr) (pa : List Addr), Same H H' → H D = none → H' D = some (.lst (pa.map V.ref)) → PathsAt H' (pathsL (d + 1) rows pre) pa → Q (.ref D) H'
section
variable {P : Program} {w : World} {K : PySem.W.Frag} {mg : Str → Option Value} {base : Heap}
theorem ok_lpaths {k0 d : Nat} {f : Addr} {fd : FuncData} (F : FnP K "_law_paths" "_law_paths" s__law_paths f fd) (T : Tx w K mg) (h1 : 1 ≤ k0) (G__law_lists : Def P w K mg base CX0 1 "_law_lists" p__law_lists (spLLists K d)) (G__law_paths : Def P w K mg base CX0 k0 "_law_paths" p__law_paths (spLPaths K d)) : FnOk P w K mg base CX0 (k0 + 1) f fd p__law_paths (spLPaths K (d + 1)) := by
  refine F.ok sc__law_paths (fun vs H Q E h => ?_) (fun cdv A outer s H vs Q E hr h => ?_)
  · obtain ⟨R, t, xs, rows, pre, kt, il, rfl, _⟩ := h
    rfl
  · obtain ⟨R, t, xs, rows, pre, kt, il, rfl, hR, hrows, good, few, ht, lp, k⟩ := h
    refine ⟨_, PSs.nox (pss_cons (ps_set (i := 2) sc__law_paths.nd rfl (.inl rfl) (pe_lst pa_nil))
      (pss_cons (ps_for PassesOwn.never rfl (pi_range1 (by rfl) T.b_range (pa_cons (pe_callB call_len_seq (by rfl) T.b_len PySem.boot_len (pa_cons (pv 0) pa_nil)) pa_nil)) (pg_name (i := 3) sc__law_paths.nd rfl (.inl rfl)) (pss_cons (ps_expr (pe_bm PySem.F.plainAttrs_list PySem.F.slot_list_append PySem.F.type_list_append mt_append (pv 2) (pa_cons (pe_op op_catA (pv 1) (pe_tup (pa_cons (pv 3) pa_nil))) pa_nil)))
      (pss_cons (ps_set (i := 4) sc__law_paths.nd rfl (.inl rfl) (pe_fn G__law_lists (hr.mono (by omega)) (by rfl) pass0 (pa_cons (pe_ix ix_list (pv 0) (pv 3) (fun _ _ => rfl)) pa_nil)))
      (pss_one (ps_for PassesOwn.never rfl (pi_range1 (by rfl) T.b_range (pa_cons (pe_callB call_len_seq (by rfl) T.b_len PySem.boot_len (pa_cons (pv 4) pa_nil)) pa_nil)) (pg_name (i := 5) sc__law_paths.nd rfl (.inl rfl)) (pss_one (ps_set (i := 2) sc__law_paths.nd rfl (.inl rfl) (pe_op op_cat (pv 2) (pe_fn G__law_paths (hr.mono (by omega)) (by rfl) pass0 (pa_cons (pe_ix ix_list (pv 4) (pv 5) (fun _ _ => rfl)) (pa_cons (pe_op op_catA (pv 1) (pe_tup (pa_cons (pv 3) (pa_cons (pv 5) pa_nil)))) pa_nil)))))))))))
      (pss_one (ps_ret (pv 2))))), ?_⟩
    have lr : rows.length ≤ 14 := by have h1 := lsz_len (d := d + 1) (by omega) rows; omega
    have lx : xs.length ≤ 14 := by rw [← hrows.len]; exact lr
    refine ⟨by show 0 ≤ sizeLine; decide, fun D0 nD0 => ?_⟩
    have S0 : Same H (upd H D0 (.lst [])) := Same.new nD0
    have hD0 : upd H D0 (.lst []) D0 = some (.lst []) := upd_same
    generalize upd H D0 (.lst []) = H1 at S0 hD0 ⊢
    refine ⟨_, rfl, R, _, rfl, .inl (SqL.of (S0 _ _ hR)), (xs.length : Int), rfl, by omega, by omega, ?_⟩
    refine for_range (lo := 0) (n := xs.length) (fun i σ H' => ∃ (D : Addr) (pa : List Addr) (v3 v4 v5 : Option V), σ = [some (.ref R), some (.ref t), some (.ref D), v3, v4, v5] ∧ Same H H' ∧ H D = none ∧ H' D = some (.lst (pa.map V.ref)) ∧ PathsAt H' (pS (pathsR (d + 1)) pre (rows.take i) 0) pa)
      ⟨D0, [], _, _, _, rfl, S0, nD0, hD0, .nil⟩ (fun i σ H3 hi q => ?_) (fun σ H3 q => ?_)
    · obtain ⟨D, pa, v3, v4, v5, rfl, S3, nD, hD, hpa⟩ := q
      have e0 : (0 + (i : Int)) = (i : Int) := by omega
      have hx : xs[i]? = some xs[i] := List.getElem?_eq_getElem hi
      generalize xs[i] = x at hx
      obtain ⟨r, hrr, hrow⟩ := hrows.other hx
      have hm := List.mem_of_getElem? hrr
      obtain ⟨lo, kd, hk⟩ := good r hm
      have sz := lsz_take1 hrr
      have lpa : pa.length = lsz (d + 1) (rows.take i) := by
        rw [← hpa.len, pS_len (s := rsz (d + 1)) _ _ fun r _ p => pathsR_len (d + 1) r p]
        rfl
      have rp := rsz_pos r
      refine ⟨_, rfl, Or.inl ⟨rfl, _, SqL.of hD⟩, _, rfl, _, rfl, by show 1 ≤ sizeLine; decide, fun q nq => ?_⟩
      rw [e0]
      have S4 : Same H3 (upd H3 q (.tup [.int (i : Int)])) := Same.new nq
      have hq : upd H3 q (.tup [.int (i : Int)]) q = some (.tup (([(i : Int)] : List Int).map V.int)) := upd_same
      generalize upd H3 q (.tup [.int (i : Int)]) = H4 at S4 hq ⊢
      refine catA_ints (S4 _ _ (S3 _ _ ht)) hq (by show _ + 1 ≤ 1000; omega) fun t2 H5 S5 ht2 => ?_
      have S35 := S4.trans S5
      have hD5 := S35 _ _ hD
      refine ⟨D, _, _, rfl, rfl, hD5, by rw [List.length_map, sizeLine_eq]; omega, ?_⟩
      have up : ∀ {y : Addr} {o : HO}, H5 y = some o → (∀ zs, o ≠ .lst zs) → upd H5 D (.lst (pa.map V.ref ++ [.ref t2])) y = some o := fun {y o} e n => by
        rw [upd_ne (fun z => by rw [z, hD5] at e; exact n _ (Option.some.inj e).symm)]
        exact e
      have SH : Same H (upd H5 D (.lst (pa.map V.ref ++ [.ref t2]))) := fun y o e => by
        rw [upd_ne (ne_of_none e nD)]
        exact S35 _ _ (S3 _ _ e)
      have hD6 : upd H5 D (.lst (pa.map V.ref ++ [.ref t2])) D = some (.lst ((pa ++ [t2]).map V.ref)) := by rw [upd_same, List.map_append]; rfl
      have hpa6 : PathsAt (upd H5 D (.lst (pa.map V.ref ++ [.ref t2]))) (pS (pathsR (d + 1)) pre (rows.take i) 0 ++ [pre ++ [(i : Int)]]) (pa ++ [t2]) :=
        (hpa.imp fun _ _ _ e => up (S35 _ _ e) (by intro _ z; cases z)).app (All2.one (up ht2 (by intro _ z; cases z)))
      generalize upd H5 D (.lst (pa.map V.ref ++ [.ref t2])) = H6 at SH hD6 hpa6 ⊢
      generalize hP0 : pS (pathsR (d + 1)) pre (rows.take i) 0 = P0 at hpa6
      have lP0 : P0.length = lsz (d + 1) (rows.take i) := by rw [← hP0, ← lpa, ← hpa.len]
      refine ⟨_, rfl, _, rfl, R, xs, (i : Int), x, rfl, rfl, SqL.of (SH _ _ hR), atI_nat hx, x, r, H6, rfl, Same.refl H6, RowAt.mono SH hrow, ⟨kt, il, lo⟩, fun H7 D4 Ls S7 nD4 hD4 hLs => ?_⟩
      have lL : Ls.length ≤ 12 := by rw [← hLs.len]; exact (lo_kids lo).2.1
      refine ⟨_, rfl, D4, _, rfl, .inl (SqL.of hD4), (Ls.length : Int), rfl, by omega, by omega, ?_⟩
      refine for_range (lo := 0) (n := Ls.length) (fun j σ H' => ∃ (D' : Addr) (pa' : List Addr) (v5 : Option V), σ = [some (.ref R), some (.ref t), some (.ref D'), some (.int (i : Int)), some (.ref D4), v5] ∧ Same H7 H' ∧ H D' = none ∧ H' D' = some (.lst (pa'.map V.ref)) ∧ PathsAt H' ((P0 ++ [pre ++ [(i : Int)]]) ++ pK (fun l pre => pS (pathsR d) pre l 0) (pre ++ [(i : Int)]) ((kids r.2).take j) 0) pa')
        ⟨D, pa ++ [t2], _, rfl, Same.refl H7, nD, S7 _ _ hD6, by rw [List.take_zero]; show PathsAt H7 (_ ++ []) _; rw [List.append_nil]; exact hpa6.imp fun _ _ _ e => S7 _ _ e⟩ (fun j σ H8 hj q => ?_) (fun σ H8 q => ?_)
      · obtain ⟨D', pa', v5, rfl, S8, nD', hD', hpa'⟩ := q
        have f0 : (0 + (j : Int)) = (j : Int) := by omega
        have hy : Ls[j]? = some Ls[j] := List.getElem?_eq_getElem hj
        generalize Ls[j] = y at hy
        obtain ⟨l, hl, La, zs, rfl, hLa, hzs⟩ := hLs.other hy
        have hml := List.mem_of_getElem? hl
        have d1 : 1 ≤ d := kd (fun z => by rw [z] at hml; cases hml)
        obtain ⟨d', rfl⟩ : ∃ d', d = d' + 1 := ⟨d - 1, by omega⟩
        have kl := kid_le hml
        have S68 := S7.trans S8
        have lpa' : pa'.length + lsz (d' + 1) l ≤ 14 := by
          rw [← hpa'.len, List.length_append, List.length_append, lP0, pK_len (s := fun l => (l.map (rsz (d' + 1))).sum) _ _ fun l _ p => pS_len l 0 fun r' _ p' => pathsR_len (d' + 1) r' p']
          have h1 := kids_take_sum (r := r) (j + 1)
          rw [take_more hl, List.map_append, List.sum_append] at h1
          have h2 : ((([l] : List (List (Row (d' + 1)))).map fun l => (l.map (rsz (d' + 1))).sum).sum) = lsz (d' + 1) l := by simp [lsz]
          rw [h2] at h1
          show _ + 1 + _ + _ ≤ 14
          omega
        refine ⟨_, rfl, _, rfl, _, rfl, D4, Ls, (j : Int), .ref La, rfl, by rw [f0], SqL.of (S8 _ _ hD4), atI_nat hy, _, rfl, _, rfl, _, rfl, by show 2 ≤ sizeLine; decide, fun q nq => ?_⟩
        rw [f0]
        have S9 : Same H8 (upd H8 q (.tup [.int (i : Int), .int (j : Int)])) := Same.new nq
        have hq : upd H8 q (.tup [.int (i : Int), .int (j : Int)]) q = some (.tup (([(i : Int), (j : Int)] : List Int).map V.int)) := upd_same
        generalize upd H8 q (.tup [.int (i : Int), .int (j : Int)]) = H9 at S9 hq ⊢
        have S69 := S68.trans S9
        refine catA_ints (S69 _ _ (SH _ _ ht)) hq (by show _ + 2 ≤ 1000; omega) fun t3 H10 S10 ht3 => ?_
        have S610 := S69.trans S10
        refine ⟨La, t3, zs, l, pre ++ [(i : Int), (j : Int)], kt, innerLoop r.1 il, rfl, S610 _ _ hLa, hzs.imp fun _ _ _ q => RowAt.mono S610 q, hk l hml, by omega, ht3, by rw [List.length_append]; show _ + 2 + _ ≤ _; omega, fun H11 D5 pa5 S11 nD5 hD5 hpa5 => ?_⟩
        have S811 := (S9.trans S10).trans S11
        have l5 : pa5.length = lsz (d' + 1) l := by
          rw [← hpa5.len]
          unfold pathsL
          rw [pS_len (s := rsz (d' + 1)) _ _ fun r _ p => pathsR_len (d' + 1) r p]
          rfl
        refine ⟨D', D5, pa'.map V.ref, pa5.map V.ref, rfl, rfl, S811 _ _ hD', hD5, by rw [List.length_map, List.length_map, sizeLine_eq]; omega, fun N nN => ?_⟩
        have S12 : Same H11 (upd H11 N (.lst (pa'.map V.ref ++ pa5.map V.ref))) := Same.new nN
        refine ⟨N, pa' ++ pa5, _, rfl, S8.trans (S811.trans S12), SH.free (S68.free (S811.free nN)), by rw [upd_same, List.map_append], ?_⟩
        rw [pK_more hl, ← List.append_assoc]
        refine (hpa'.imp fun _ _ _ e => S12 _ _ (S811 _ _ e)).app ?_
        have e2 : (pre ++ [(i : Int)]) ++ [(j : Int)] = pre ++ [(i : Int), (j : Int)] := by simp
        show PathsAt _ (pS (pathsR (d' + 1)) ((pre ++ [(i : Int)]) ++ [(j : Int)]) l 0) pa5
        rw [e2]
        exact hpa5.imp fun _ _ _ e => S12 _ _ e
      · obtain ⟨D', pa', v5, rfl, S8, nD', hD', hpa'⟩ := q
        rw [← hLs.len, List.take_length] at hpa'
        refine ⟨D', pa', _, _, _, rfl, SH.trans (S7.trans S8), nD', hD', ?_⟩
        rw [pS_more hrr, hP0]
        rw [List.append_assoc] at hpa'
        exact hpa'
    · obtain ⟨D, pa, v3, v4, v5, rfl, S3, nD, hD, hpa⟩ := q
      refine ⟨_, rfl, ?_⟩
      rw [← hrows.len, List.take_length] at hpa
      exact k H3 D pa S3 nD hD hpa
end
end OR

set_option Elab.async false
set_option maxRecDepth 100000
set_option maxHeartbeats 8000000
set_option linter.all false
namespace OR
open PySem PySem.Spec PyProof.Rows L2 TS2
theorem cut2 {x y : V} {zs : List V} : cutV (x :: y :: zs) (some 2) none = zs := by
  unfold cutV
  have e1 : HT.sIx (x :: y :: zs).length 0 (some 2) = 2 := by
    unfold HT.sIx
    dsimp only
    rw [if_neg (by decide), List.length_cons, List.length_cons]
    omega
  have e2 : HT.sIx (x :: y :: zs).length (x :: y :: zs).length none = (x :: y :: zs).length := rfl
  rw [e1, e2]
  show (zs.take (zs.length + 1 + 1 - 2)) = zs
  rw [show zs.length + 1 + 1 - 2 = zs.length by omega, List.take_length]
def spLAt (K : PySem.W.Frag) : Nat → Sp
  | 0 => fun _ _ _ _ => False
  | d + 1 => fun vs H Q _ => ∃ (R t : Addr) (xs : List V) (rows : List (Row (d + 1))) (q : List Int) (x : AnyRow) (kt : Kit) (il : Bool), vs = [.ref R, .ref t] ∧ H R = some (.lst xs) ∧ All2 (RowAt K H (d + 1)) rows xs ∧ (∀ r ∈ rows, Good kt (d + 1) il r) ∧ H t = some (.tup (q.map V.int)) ∧ At (d + 1) rows q x ∧
    ∀ (H' : Hp) (y : V), Same H H' → RowAt K H' (x.1 + 1) x.2 y → Q y H'
section
variable {P : Program} {w : World} {K : PySem.W.Frag} {mg : Str → Option Value} {base : Heap}
theorem ok_lat {k0 d : Nat} {f : Addr} {fd : FuncData} (F : FnP K "_law_at" "_law_at" s__law_at f fd) (T : Tx w K mg) (h1 : 1 ≤ k0) (G__law_lists : Def P w K mg base CX0 1 "_law_lists" p__law_lists (spLLists K d)) (G__law_at : Def P w K mg base CX0 k0 "_law_at" p__law_at (spLAt K d)) : FnOk P w K mg base CX0 (k0 + 1) f fd p__law_at (spLAt K (d + 1)) := by
  refine F.ok sc__law_at (fun vs H Q E h => ?_) (fun cdv A outer s H vs Q E hr h => ?_)
  · obtain ⟨R, t, xs, rows, q, x, kt, il, rfl, _⟩ := h
    rfl
  · obtain ⟨R, t, xs, rows, q, x, kt, il, rfl, hR, hrows, good, ht, at_, k⟩ := h
    refine ⟨_, PSs.nox (pss_cons (ps_if (pt_cmpR op_eq (pe_callB call_len_seq (by rfl) T.b_len PySem.boot_len (pa_cons (pv 1) pa_nil)) pe_int (nomark _)) (pss_one (ps_ret (pe_ix ix_list (pv 0) (pe_ix ix_tup (pv 1) pe_int (fun _ _ => rfl)) (fun _ _ => rfl)))) pss_nil)
      (pss_one (ps_ret (pe_fn G__law_at (hr.mono (by omega)) (by rfl) pass0 (pa_cons (pe_ix ix_list (pe_fn G__law_lists (hr.mono (by omega)) (by rfl) pass0 (pa_cons (pe_ix ix_list (pv 0) (pe_ix ix_tup (pv 1) pe_int (fun _ _ => rfl)) (fun _ _ => rfl)) pa_nil)) (pe_ix ix_tup (pv 1) pe_int (fun _ _ => rfl)) (fun _ _ => rfl)) (pa_cons (pe_slice sl_tup (pv 1) (po_some pe_int) po_none) pa_nil)))))), ?_⟩
    match q, at_, ht with
    | [], at_, _ => exact at_.elim
    | [i], at_, ht =>
      obtain ⟨r, hr, hi, rfl⟩ := at_
      obtain ⟨n, rfl⟩ := Int.eq_ofNat_of_zero_le hi
      rw [Int.toNat_natCast] at hr
      obtain ⟨v, hv, hrow⟩ := hrows.right hr
      refine ⟨_, rfl, t, _, rfl, .inr (SqT.of ht), rfl, _, rfl, ?_⟩
      refine iteT' (decide_eq_true rfl) ?_
      refine ⟨_, rfl, _, rfl, t, _, 0, .int (n : Int), rfl, rfl, SqT.of ht, at0, R, xs, (n : Int), v, rfl, rfl, SqL.of hR, atI_nat hv, ?_⟩
      exact k H v (Same.refl H) hrow
    | i :: j :: rest, at_, ht =>
      obtain ⟨r, l, hr, hi, hl, hj, at2⟩ := at_
      obtain ⟨n, rfl⟩ := Int.eq_ofNat_of_zero_le hi
      obtain ⟨m, rfl⟩ := Int.eq_ofNat_of_zero_le hj
      rw [Int.toNat_natCast] at hr hl
      obtain ⟨v, hv, hrow⟩ := hrows.right hr
      obtain ⟨lo, kd, hk⟩ := good r (List.mem_of_getElem? hr)
      have hml := List.mem_of_getElem? hl
      have d1 : 1 ≤ d := kd (fun z => by rw [z] at hml; cases hml)
      obtain ⟨d', rfl⟩ : ∃ d', d = d' + 1 := ⟨d - 1, by omega⟩
      refine ⟨_, rfl, t, _, rfl, .inr (SqT.of ht), rfl, _, rfl, ?_⟩
      refine iteF' (decide_eq_false (fun z => by have := V.int.inj z; simp at this; omega)) ?_
      refine ⟨_, rfl, _, rfl, t, _, 0, .int (n : Int), rfl, rfl, SqT.of ht, at0, R, xs, (n : Int), v, rfl, rfl, SqL.of hR, atI_nat hv, v, r, H, rfl, Same.refl H, hrow, ⟨kt, il, lo⟩, fun H1 D Ls S1 nD hD hLs => ?_⟩
      obtain ⟨y, hy, La, zs, rfl, hLa, hzs⟩ := hLs.right hl
      refine ⟨_, rfl, t, _, 1, .int (m : Int), rfl, rfl, SqT.of (S1 _ _ ht), at1, D, Ls, (m : Int), .ref La, rfl, rfl, SqL.of hD, atI_nat hy, ?_⟩
      refine ⟨_, rfl, 2, rfl, t, _, rfl, SqT.of (S1 _ _ ht), ?_, fun q nq => ?_⟩
      · rintro ⟨z, _⟩
        rw [show HT.sIx (List.map V.int ((n : Int) :: (m : Int) :: rest)).length 0 (some 2) = 2 by
          unfold HT.sIx
          dsimp only
          rw [if_neg (by decide), List.length_map, List.length_cons, List.length_cons]
          omega] at z
        cases z
      rw [show cutV (List.map V.int ((n : Int) :: (m : Int) :: rest)) (some 2) none = rest.map V.int from cut2]
      have S2 : Same H1 (upd H1 q (.tup (rest.map V.int))) := Same.new nq
      refine ⟨La, q, zs, l, rest, x, kt, innerLoop r.1 il, rfl, S2 _ _ (S1 _ _ hLa), hzs.imp fun _ _ _ z => RowAt.mono (S1.trans S2) z, hk l hml, upd_same, at2, fun H' y S3 hy => k H' y (S1.trans (S2.trans S3)) hy⟩
end
end OR

set_option Elab.async false
set_option maxRecDepth 100000
set_option maxHeartbeats 4000000
set_option linter.all false
/-! a word of our own: isinstance of a caught error that holds fields -/
namespace L2
open PySem PySem.Spec PyProof.Rows
def rIsX (K : PySem.W.Frag) (cls : Value) (d : Option Addr) (a : Addr) : List V → Hp → VK → Prop := fun xs H Q => ∃ (D dd : Addr) (c : V) (cv : Value) (b : Bool) (fs : List (Str × V)),
  cls = .ref D ∧ d = some dd ∧ ExcC K D ∧ H dd = some (.xd fs) ∧ xs = [.ref a, c] ∧ (∀ u, RelV c u → u = cv) ∧ PySem.W.kitOne K (.ref D) cv = some b ∧ Q (.bl b) H
theorem call_isX {X : Cx} {a : Addr} {oe : Obj} {cls : Value} {d : Option Addr} {pn : List (Addr × Obj)} (hz : Zc cls d oe) (hf : ∃ vs, oe.data = .fields vs) : CallR (X.suite a ((a, oe) :: pn)) (.builtin "isinstance") (rIsX X.K cls d a) := by
  intro pins s σ H xs us Q I r h
  obtain ⟨D, dd, c, cv, b, fs, rfl, rfl, C, hd, rfl, hcv, e, q⟩ := h
  cases r with
  | cons rx rr =>
    cases rr with
    | cons rt rr =>
      cases rr
      cases rx
      have ec := hcv _ rt
      subst ec
      obtain ⟨hget, _⟩ := I.pin (a, oe) (List.mem_append.mpr (.inl List.mem_cons_self))
      obtain ⟨vs, hv⟩ := hf
      have hx : ObjOk X.prog X.w H s.heap dd (.xd fs) := I.hok dd _ hd
      obtain ⟨mA, hns, _⟩ := hx
      obtain ⟨od, ho, _⟩ := lookIn_ns hns
      have J : PySem.W.InstAt s.heap a oe D (some od) := ⟨hget, hz.1, by unfold PySem.W.notCls; rw [hv] <;> rfl, by rw [hz.2]; exact ho⟩
      have hcl : (PySem.W.clsIn X.K D).isSome = true := by
        have := C.hd
        unfold PySem.W.hasDictIn at this
        revert this
        cases PySem.W.clsIn X.K D <;> simp
      exact PySem.W.kia_one (PySem.W.kitx_exc hcl C.hg C.hk C.hs C.ha C.hn C.ht C.hm) I.kIn J e (fun z => nomatch z) fun tk => ⟨.bl b, H, I.kept (t' := tk) fun _ _ z => z, rfl, q⟩
section
variable {X : Cx} {CX : CXT} {k : Nat} {C : Addr} {ps : List Str} {sp : Sp} {E : L2.St → XK} {m : Str} {o e : Expr} {es : List Expr} {to : TE} {t : TA} {apos pos : Pos}
/-- a method call that may raise: the caller's wish at its slots -/
theorem pe_mthS {pl : Sem Bool} (c : MDef X.prog X.w X.K X.mg X.base CX k C m ps sp) (hr : Room k X.A) (hx : ∀ σ, PassesAt CX X σ (E σ)) (ho : PE X o to) (ha : PA X (e :: es) t)
    (hst : starEach (e :: es) X.env = (false, eval e X.env) :: starEach es X.env := by rfl) (hpl : (backTo pos (starEach es X.env)).any (·.1) = false := by rfl)
    (ht : eval (.Call (.Attribute o m apos) (e :: es) [] pos) X.env = (do
      let ov ← eval o X.env
      standAt apos.atName
      let (f, first) ← holding [ov] (getMethod ov m pl)
      callWith pos f first (backTo pos (starEach (e :: es) X.env)) (backToKw pos (keywordEach [] X.env))) := by rfl) :
    PE X (.Call (.Attribute o m apos) (e :: es) [] pos) (fun σ H Q => tMeth C m sp [] (E σ) to t σ H Q) := by
  obtain ⟨f, fd, hm, hb, F⟩ := c.ex
  refine ⟨fun pins s σ H Q I h => ?_⟩
  refine PySem.W.methodCall_KW (pl := pl) (thn (ho.run pins s σ H _ I h) fun u s1 ⟨x, H1, I1, rx, a, dx, fs, ex, ea, l, q⟩ => ?_) ht
  subst ex
  obtain rfl : u = Value.ref a := rx
  refine getmeth_ok I1 ea c.cl hm l ?_
  refine PySem.W.callWith_K (first := [.ref a]) (h₀ := X.base) I.ok.mod.kin hm.kp (thn (ha.run pos pins s1 σ H1 _ I1 q) fun us s2 ⟨vs, H2, I2, r, q2⟩ => ⟨I2.kIn, ?_⟩) hst hpl
  dsimp only at q2
  rw [List.append_nil] at q2
  exact run_fnS (us := .ref a :: us) (vs := .ref a :: vs) F hr hb (hx σ) I2 (.cons rfl r) q2
end
end L2

set_option Elab.async false
set_option maxRecDepth 100000
set_option maxHeartbeats 4000000
set_option linter.all false
/-! a def called while an exception is handled, whatever that exception's context: it raises nothing and steps through nothing -/
namespace L2
open PySem PySem.Spec PyProof.Rows
abbrev hush (A : Around) : Around := { A with handled := none }
structure FnW (P : Program) (w : World) (K : PySem.W.Frag) (mg : Str → Option Value) (base : Heap) (CX : CXT) (k : Nat) (f : Addr) (fd : FuncData) (ps : List Str) (sp : Sp) : Prop where
  len : ∀ vs H Q E, sp vs H Q E → vs.length = ps.length
  go : ∀ (A : Around) (outer : List Env) (s : Shared) (H : Hp) (args : Args) (us : List Value) (vs : List V) (Q : VK) (E : XK), L2H.RoomH k A → Env0 P w K mg base A outer s H → BindsTo s fd args (ps.zip us) → Vals vs us → sp vs H Q E → codeAny (model P w) A (.call (.ref f) args) (CR CX outer P w H s Q E) s
abbrev cxW (CX : CXT) (P : Program) (w : World) (K : PySem.W.Frag) (mg : Str → Option Value) (base : Heap) (N : List Str) (q : Str) (sc : Scope) (f : Addr) (cd : Value) (A : Around) (outer : List Env) (s : Shared) (H : Hp) (E : XK) : Cx := { cxOf CX P w K mg base N q sc f cd A outer s H E with calm := false }
section
variable {CX : CXT} {P : Program} {w : World} {K : PySem.W.Frag} {mg : Str → Option Value} {base : Heap} {N ps : List Str} {q x : Str} {sc : Scope} {f : Addr} {cd : Value} {A : Around} {outer : List Env} {s s1 : Shared} {H : Hp} {E : XK} {us : List Value} {vs : List V}
theorem Env0.unmark (e : Env0 P w K mg base A outer s H) : Env0 P w K mg base (hush A) outer s H := ⟨e.frames, e.mod, e.bs, e.bsz, e.funs, e.frf, e.hok, e.bare⟩
theorem Inv.noisy {pins : List (Addr × Obj)} {σ : St} {H' : Hp} {s' : Shared} (I : Inv (cxOf CX P w K mg base N q sc f cd (hush A) outer s H E) pins σ H' s') : Inv (cxW CX P w K mg base N q sc f cd A outer s H E) pins σ H' s' := by
  obtain ⟨⟨a1, a2, a3, a4, a5, a6, a7, a8, _, a9, a10, a11, a12, a13, a14, a15, a16, a17⟩, i1, i2, i3, i4, i5, i6, i7, i8, i9, i10⟩ := I
  exact ⟨⟨a1, a2, a3, a4, a5, a6, a7, a8, (fun z => nomatch z), a9, a10, a11, a12, a13, a14, a15, a16, a17⟩, i1, i2, i3, i4, i5, i6, i7, i8, i9, i10⟩
theorem FunD.okW {params : Arguments} {body : List Stmt} {dvs : List V} {kws : List (Str × V)} {fd : FuncData} {k : Nat} {sp : Sp} (F : FunD K x q params body sc dvs kws f fd) (S : FnScope N ps sc) (len : ∀ vs H Q E, sp vs H Q E → vs.length = ps.length)
    (hb : ∀ (cd : Value) (A : Around) (outer : List Env) (s : Shared) (H : Hp) (vs : List V) (Q : VK) (E : XK), L2H.RoomH k (A.deeper (envOfC q sc s.heap.objs.size f cd)) → sp vs H Q E → ∃ t, PSs (cxW CX P w K mg base N q sc f cd A outer s H E) body t ∧ t { nx := fun _ H' => Q .non H', rt := Q } (start N vs) H) : FnW P w K mg base CX (k + 1) f fd ps sp := by
  obtain ⟨oc, od, dV, kV, doc, pm, an, cd, ct, osl, efd, lk, hc, _, _⟩ := F.ex
  subst efd
  constructor
  · exact len
  intro A outer s H args us vs Q E room env bind rel want
  have inHeap := env.mod.kin.keeps fun b o h => (env.bs b o h).1
  have free : s.heap.NoLimit := env.mod.nolimit.keeps fun b o h => (env.bs b o h).1
  refine codeAny_call_function room.depth (inHeap _ _ lk) rfl S.co S.gen rfl (PySem.W.codeRec_of inHeap hc) (bind _ _ _ _ (wpAny_newFunctionEnv_cells S.kind (fun y hy => ?_) fun env' he s1 ic => ?_))
  · rcases S.par y.1 (List.of_mem_zip hy).1 with h | h
    · exact Or.inl h
    · exact Or.inr ⟨h, PySem.W.cellsFrom_some _ _ _ (.inl h)⟩
  · subst he
    obtain ⟨t, tOk, tq⟩ := hb cd A outer s H vs Q E (room.deeper _) want
    have start_ := (inv_start (cd := cd) (E := E) (CX := CX) S rfl env.unmark (len _ _ _ _ want) rel ic).noisy (A := A)
    refine ⟨free.keeps ic.toInCall.keep, codeAny_func (wpAny_mono (tOk.run [] s1 (start N vs) H _ start_ tq) (fun fl s' out => ?_) fun _ _ out => out)⟩
    cases fl with
    | ret u => exact let ⟨v, _, H', J, rv, z⟩ := out; ⟨v, H', J.os, J.bare, J.base, J.hok, rv, z⟩
    | next => exact let ⟨_, H', J, z⟩ := out; ⟨V.non, H', J.os, J.bare, J.base, J.hok, rfl, z⟩
    | brk => exact let ⟨_, _, _, z⟩ := out; z.elim
    | cont => exact let ⟨_, _, _, z⟩ := out; z.elim
end
/-- such a def by its name -/
structure DefW (P : Program) (w : World) (K : PySem.W.Frag) (mg : Str → Option Value) (base : Heap) (CX : CXT) (k : Nat) (x : Str) (ps : List Str) (sp : Sp) : Prop where
  ex : ∃ (f : Addr) (fd : FuncData), mg x = some (.ref f) ∧ PySem.W.keepIn K (.ref f) = true ∧ Binds K fd ps [] ∧ FnW P w K mg base CX k f fd ps sp
section
variable {X : Cx} {k : Nat} {ps : List Str} {sp : Sp} {x : Str} {p pos : Pos} {e : Expr} {es : List Expr} {t : TA}
theorem pe_fnW (c : DefW X.prog X.w X.K X.mg X.base CX0 k x ps sp) (hr : L2H.RoomH k X.A) (hg : Gl X x) (ha : PA X (e :: es) t)
    (hdb : (x == ("__debug__" : Str)) = false := by decide) (he : starEach (e :: es) X.env = (false, eval e X.env) :: starEach es X.env := by rfl)
    (hpl : (backTo pos (starEach es X.env)).any (·.1) = false := by rfl) : PE X (.Call (.Name x p) (e :: es) [] pos) (fun σ H Q => t σ H fun vs H1 => sp vs H1 Q E0) := by
  obtain ⟨f, fd, hm, hk, hb, F⟩ := c.ex
  constructor
  intro pins s σ H Q I h
  refine wpAny_Call_Name_kw (ld_glob I hg hm ?_ hdb)
  refine PySem.W.callWith_K (h₀ := X.base) I.ok.mod.kin hk (thn (ha.run pos pins s σ H _ I h) ?_) he hpl
  rintro us s1 ⟨vs, H1, I1, rel, want⟩
  refine ⟨I1.kIn, ?_⟩
  have bind := hb s1 us I1.kIn (by rw [List.append_nil, ← rel.length]; exact F.len _ _ _ _ want)
  rw [List.append_nil] at bind
  refine wpAny_call (codeAny_mono (F.go X.A X.stack s1 H1 ⟨us, []⟩ us vs Q E0 hr I1.env0 bind rel want) fun r s' out => ?_)
  cases r with
  | error e => exact False.elim out
  | ok fl =>
    cases fl with
    | ret u => exact I1.after out
    | next => exact False.elim out
    | brk => exact False.elim out
    | cont => exact False.elim out
end
end L2

set_option Elab.async false
set_option maxRecDepth 100000
set_option maxHeartbeats 8000000
set_option linter.all false
namespace OR
open PySem PySem.Spec PyProof.Rows L2 TS2
abbrev cRE (K : PySem.W.Frag) : Addr := He.ga K "RunError"
abbrev cIE (K : PySem.W.Frag) : Addr := He.ga K "InputError"
abbrev cOE (K : PySem.W.Frag) : Addr := He.ga K "OpenError"
structure ErrK (K : PySem.W.Frag) (mg : Str → Option Value) : Prop where
  xf : XfC K (cIA K)
  xc : ExcC K (cIA K)
  g : mg "InvalidArgument" = some (.ref (cIA K))
  gP : mg "InvalidProgram" = some (.ref (cIP K))
  gR : mg "RunError" = some (.ref (cRE K))
  gI : mg "InputError" = some (.ref (cIE K))
  gO : mg "OpenError" = some (.ref (cOE K))
  n : PySem.W.findIn K (.ref (cIA K)) "part" = some none
  e : PySem.W.exmOne K (.ref (cIA K)) (.ref (cIA K)) = some true
  kP : PySem.W.kitOne K (.ref (cIA K)) (.ref (cIP K)) = some false
  kR : PySem.W.kitOne K (.ref (cIA K)) (.ref (cRE K)) = some false
  kI : PySem.W.kitOne K (.ref (cIA K)) (.ref (cIE K)) = some true
  kO : PySem.W.kitOne K (.ref (cIA K)) (.ref (cOE K)) = some true
def spSameS : Sp := fun vs H Q _ => ∃ z : Str, vs = [.str z, .str z] ∧ ∀ H', Same H H' → Q (.bl true) H'
def spLRef (K : PySem.W.Frag) : Sp := fun vs H Q _ => ∃ (p : Addr) (v : V) (ka ks : List (Key × V)) (vi : V) (rows : List (Row 5)), vs = [.ref p, v] ∧ PgAt K H p ka ks vi 5 rows ∧
  ((HasIs K H (planOf 5 rows).pl v false ∧ ∀ H', Same H H' → Q (.bl true) H') ∨
   ∃ (t : Addr) (ns : List Int) (i : Nat) (x : AnyRow), v = .ref t ∧ H t = some (.tup (ns.map V.int)) ∧ ns.length ≤ 1000 ∧ (planOf 5 rows).pl[i]? = some ns ∧ (planOf 5 rows).fl[i]? = some x ∧ ∀ H', Same H H' → Q (.bl false) H')
section
variable {P : Program} {w : World} {K : PySem.W.Frag} {mg : Str → Option Value} {base : Heap}
theorem ok_sameW {f : Addr} {fd : FuncData} (F : FnP K "_law_same" "_law_same" s__law_same f fd) (T : Tx w K mg) : FnW P w K mg base CX0 1 f fd p__law_same spSameS := by
  refine F.okW sc__law_same (fun vs H Q E h => ?_) (fun cdv A outer s H vs Q E hr h => ?_)
  · obtain ⟨z, rfl, _⟩ := h
    rfl
  · obtain ⟨z, rfl, k⟩ := h
    refine ⟨_, PSs.nox (pss_cons (ps_if (pt_val (pe_callB call_isiT (by rfl) T.b_isinstance (by decide +kernel) (pa_cons (pv 1) (pa_cons (pe_tup (pa_cons (pe_bltn (v := .ty "tuple") (u := .type "tuple") (by rfl) T.b_tuple (by decide +kernel) rfl) (pa_cons (pe_bltn (v := .ty "list") (u := .type "list") (by rfl) T.b_list (by decide +kernel) rfl) pa_nil))) pa_nil)))) pss_never pss_nil)
      (pss_cons (ps_if (PW.pt (pw_or (pt_cmpR op_isN (pv 1) pe_non (nomark _)) (pw_or1 (pt_cmpR op_isN (pv 0) pe_non (nomark _))))) (pss_one (ps_ret (pe_and (pe_cmpR op_isN (pv 1) pe_non (nomark _)) (pe_one (pe_cmpR op_isN (pv 0) pe_non (nomark _)))))) pss_nil)
      (pss_cons (ps_if (pt_cmpR op_ne (pe_callB call_isi (by rfl) T.b_isinstance (by decide +kernel) (pa_cons (pv 0) (pa_cons (pe_bltn (v := .ty "bool") (u := .type "bool") (by rfl) T.b_bool (by decide +kernel) rfl) pa_nil))) (pe_callB call_isi (by rfl) T.b_isinstance (by decide +kernel) (pa_cons (pv 1) (pa_cons (pe_bltn (v := .ty "bool") (u := .type "bool") (by rfl) T.b_bool (by decide +kernel) rfl) pa_nil))) (nomark _)) (pss_one (ps_ret pe_bl)) pss_nil)
      (pss_cons (ps_if (pt_cmpR op_ne (pe_callB call_isi (by rfl) T.b_isinstance (by decide +kernel) (pa_cons (pv 0) (pa_cons (pe_bltn (v := .ty "str") (u := .type "str") (by rfl) T.b_str (by decide +kernel) rfl) pa_nil))) (pe_callB call_isi (by rfl) T.b_isinstance (by decide +kernel) (pa_cons (pv 1) (pa_cons (pe_bltn (v := .ty "str") (u := .type "str") (by rfl) T.b_str (by decide +kernel) rfl) pa_nil))) (nomark _)) (pss_one (ps_ret pe_bl)) pss_nil)
      (pss_one (ps_ret (pe_and (pe_callB call_isiT (by rfl) T.b_isinstance (by decide +kernel) (pa_cons (pv 0) (pa_cons (pe_tup (pa_cons (pe_bltn (v := .ty "int") (u := .type "int") (by rfl) T.b_int (by decide +kernel) rfl) (pa_cons (pe_bltn (v := .ty "str") (u := .type "str") (by rfl) T.b_str (by decide +kernel) rfl) pa_nil))) pa_nil))) (pe_one (pe_cmpR op_eq (pv 0) (pv 1) (nomark _)))))))))), ?_⟩
    refine ⟨_, rfl, by show 2 ≤ sizeLine; decide, fun tp ntp => ⟨.str z, tp, _, _, _, _, rfl, upd_same, .cons (.ty "tuple") (.cons (.ty "list") .nil), .base (.str z), kitA (x := false) (y := false) (kit_ty (by decide +kernel)) (kit_ty (by decide +kernel)), _, rfl, ?_⟩⟩
    refine iteF ?_
    refine ⟨_, rfl, rfl, _, rfl, ?_⟩
    refine iteF ⟨_, rfl, rfl, _, rfl, ?_⟩
    refine iteF ?_
    refine ⟨_, rfl, .str z, .ty "bool", _, _, false, rfl, .ty _, .base (.str z), kit_ty (by decide +kernel), _, rfl, .str z, .ty "bool", _, _, false, rfl, .ty _, .base (.str z), kit_ty (by decide +kernel), rfl, _, rfl, ?_⟩
    refine iteF ?_
    refine ⟨_, rfl, .str z, .ty "str", _, _, true, rfl, .ty _, .base (.str z), kit_ty (by decide +kernel), _, rfl, .str z, .ty "str", _, _, true, rfl, .ty _, .base (.str z), kit_ty (by decide +kernel), rfl, _, rfl, ?_⟩
    refine iteF ?_
    refine ⟨_, rfl, by show 2 ≤ sizeLine; decide, fun tq ntq => ⟨.str z, tq, _, _, _, _, rfl, upd_same, .cons (.ty "int") (.cons (.ty "str") .nil), .base (.str z), kitA (x := false) (y := true) (kit_ty (by decide +kernel)) (kit_ty (by decide +kernel)), _, rfl, ?_⟩⟩
    refine iteT ⟨_, rfl, _, rfl, rfl, ?_⟩
    show Q (.bl (decide (V.str z = V.str z))) _
    rw [decide_eq_true rfl]
    exact k _ ((Same.new ntp).trans (Same.new ntq))
theorem ok_lrefused {k0 kr : Nat} {f : Addr} {fd : FuncData} (F : FnP K "_law_refused" "_law_refused" s__law_refused f fd) (T : Tx w K mg) (EK : ErrK K mg) (h1 : kr ≤ k0) (h2 : 1 ≤ k0) (M_row_at : MDef P w K mg base (L2.CX P w) kr (He.ga K "Program") "row_at" p_Program_row_at (spRowAt K 5)) (W__law_same : DefW P w K mg base CX0 1 "_law_same" p__law_same spSameS) : FnOk P w K mg base CX0 (k0 + 1) f fd p__law_refused (spLRef K) := by
  refine F.ok sc__law_refused (fun vs H Q E h => ?_) (fun cdv A outer s H vs Q E hr h => ?_)
  · obtain ⟨p, v, _, _, _, _, rfl, _⟩ := h
    rfl
  · obtain ⟨p, v, ka, ks, vi, rows, rfl, pg, h⟩ := h
    refine ⟨_, pss_cons (ps_try_as (i := 2) (tb := _) (ts := _) (Wout := fun _ _ _ _ => False) rfl rfl sc__law_refused.nd rfl rfl ⟨rfl, by decide, .inl EK.g⟩ takes0
        (fun W pn xe tk _ => pss_one (ps_expr (by exact (pe_mthS (E := WE W) M_row_at (hr.mono (by omega)) (fun σ => passAt tk σ) (pv 0) (pa_cons (pv 1) pa_nil)))))
        (fun a oe cls d pn hz hf => pss_cons (ps_if (PW.pt (pw_or (pt_val (pe_callB (call_isX hz hf) (by rfl) T.b_isinstance (by decide +kernel) (pa_cons (pv 2) (pa_cons (pe_ref (by rfl) EK.gP) pa_nil)))) (pw_or1 (pt_val (pe_callB (call_isX hz hf) (by rfl) T.b_isinstance (by decide +kernel) (pa_cons (pv 2) (pa_cons (pe_ref (by rfl) EK.gR) pa_nil))))))) (pss_one (ps_ret pe_bl)) pss_nil)
          (pss_one (ps_ret (pe_and (pe_callB (call_isX hz hf) (by rfl) T.b_isinstance (by decide +kernel) (pa_cons (pv 2) (pa_cons (pe_ref (by rfl) EK.gI) pa_nil))) (pe_and (pe_callB (call_isX hz hf) (by rfl) T.b_isinstance (by decide +kernel) (pa_cons (pv 2) (pa_cons (pe_ref (by rfl) EK.gO) pa_nil))) (pe_one (pe_fnW W__law_same ⟨(hr.mono h2).dp, (hr.mono h2).un⟩ (by rfl) (pa_cons (by exact (pe_xf EK.xf EK.n hz hf (pv 2))) (pa_cons pe_str pa_nil))))))))))
      (pss_one (ps_ret pe_bl)), ?_⟩
    obtain ⟨Hr, dx, ⟨a, s', l, pl, nt, dx2, ys, h0, hrest⟩, Sr⟩ := id pg
    rcases h with ⟨hv, k⟩ | ⟨t, ns, i, x, rfl, ht, few, hp, hx, k⟩
    · refine ⟨_, rfl, p, dx, _, rfl, Sr _ _ h0, rfl, _, rfl, p, v, ka, ks, vi, rows, rfl, pg, .inl ⟨hv, fun d0 H2 kk nd hd => ?_⟩⟩
      have S2 : Same H H2 := fun b o hb => kk b o hb fun z => z.elim
      refine ⟨true, EK.e, fun _ q nq => ?_, fun z => Bool.noConfusion z⟩
      refine ⟨_, rfl, cIA K, d0, .ref (cIP K), .ref (cIP K), false, _, rfl, rfl, EK.xc, hd, rfl, fun u hu => hu, EK.kP, _, rfl, ?_⟩
      refine iteF ?_
      refine ⟨_, rfl, cIA K, d0, .ref (cRE K), .ref (cRE K), false, _, rfl, rfl, EK.xc, hd, rfl, fun u hu => hu, EK.kR, _, rfl, ?_⟩
      refine iteF ?_
      refine ⟨_, rfl, cIA K, d0, .ref (cIE K), .ref (cIE K), true, _, rfl, rfl, EK.xc, hd, rfl, fun u hu => hu, EK.kI, _, rfl, iteT ?_⟩
      refine ⟨_, rfl, cIA K, d0, .ref (cOE K), .ref (cOE K), true, _, rfl, rfl, EK.xc, hd, rfl, fun u hu => hu, EK.kO, _, rfl, iteT ?_⟩
      refine ⟨_, rfl, rfl, rfl, d0, _, .str "path", rfl, hd, rfl, "path", rfl, fun H3 S3 => ?_⟩
      exact k H3 (S2.trans S3)
    · refine ⟨_, rfl, p, dx, _, rfl, Sr _ _ h0, rfl, _, rfl, p, .ref t, ka, ks, vi, rows, rfl, pg, .inr ⟨t, ns, i, x, rfl, ht, few, hp, hx, fun H1 y S1 hy => ?_⟩⟩
      exact k H1 S1
end
end OR

set_option Elab.async false
set_option maxRecDepth 100000
set_option maxHeartbeats 8000000
set_option linter.all false
namespace OR
open PySem PySem.Spec PyProof.Rows L2 TS2
theorem six_hi (n len : Nat) : HT.sIx len len (some (n : Int)) = min n len := by
  unfold HT.sIx
  dsimp only
  rw [if_neg (by omega), Int.toNat_natCast]
theorem six_lo (n len : Nat) : HT.sIx len 0 (some (n : Int)) = min n len := by
  unfold HT.sIx
  dsimp only
  rw [if_neg (by omega), Int.toNat_natCast]
theorem cut_to {xs : List V} {n : Nat} (h : n ≤ xs.length) : cutV xs none (some (n : Int)) = xs.take n := by
  unfold cutV
  rw [six_hi, Nat.min_eq_left h]
  rfl
theorem cut_from {xs : List V} {n : Nat} (h : n ≤ xs.length) : cutV xs (some (n : Int)) none = xs.drop n := by
  unfold cutV
  rw [six_lo, Nat.min_eq_left h]
  show (xs.drop n).take (xs.length - n) = _
  rw [← List.length_drop, List.take_length]
theorem nl_tup {H H' : Hp} {p : Addr} {xs : List V} (S : Same H H') (h : H' p = some (.tup xs)) : NL H p := fun o e => by
  rw [S _ _ e] at h
  cases Option.some.inj h
  rfl
theorem catOne {K : PySem.W.Frag} {H : Hp} {s : Addr} {xs : List V} {v : V} {Q : VK} (hs : H s = some (.tup xs)) (l : xs.length ≤ 900) (k : ∀ (p : Addr) (H' : Hp), Same H H' → H' p = some (.tup (xs ++ [v])) → Q (.ref p) H') : ∀ q, H q = none → rCatA K (.ref s) (.ref q) (upd H q (.tup [v])) Q := fun q nq => by
  have S : Same H (upd H q (.tup [v])) := Same.new nq
  refine ⟨s, q, xs, [v], rfl, rfl, SqT.of (S _ _ hs), SqT.of upd_same, by rw [sizeLine_eq]; show xs.length + 1 ≤ _; omega, fun e => ?_, fun _ e => absurd e (List.cons_ne_nil _ _), fun _ _ p np => ?_⟩
  · subst e
    exact k q _ S upd_same
  · exact k p _ (S.trans (Same.new np)) upd_same
theorem catTup {K : PySem.W.Frag} {H : Hp} {a b : Addr} {xs ys : List V} {Q : VK} (ha : H a = some (.tup xs)) (hb : H b = some (.tup ys)) (l : xs.length + ys.length ≤ 1000) (k : ∀ (p : Addr) (H' : Hp), Same H H' → H' p = some (.tup (xs ++ ys)) → Q (.ref p) H') : rCatA K (.ref a) (.ref b) H Q := by
  refine ⟨a, b, xs, ys, rfl, rfl, SqT.of ha, SqT.of hb, by rw [sizeLine_eq]; omega, fun e => ?_, fun _ e => ?_, fun _ _ p np => ?_⟩
  · subst e
    exact k b H (Same.refl H) hb
  · subst e
    exact k a H (Same.refl H) (by rw [List.append_nil]; exact ha)
  · exact k p _ (Same.new np) upd_same
section
variable {K : PySem.W.Frag} {H : Hp} {pl : List (List Int)}
theorem has_non : HasIs K H pl .non false := .inl ⟨fun H' _ => ⟨_, .base .non, kit_ty (by decide +kernel)⟩, rfl⟩
theorem has_str {z : Str} : HasIs K H pl (.str z) false := .inl ⟨fun H' _ => ⟨_, .base (.str z), kit_ty (by decide +kernel)⟩, rfl⟩
theorem has_int {i : Int} : HasIs K H pl (.int i) false := .inl ⟨fun H' _ => ⟨_, .base (.int i), kit_ty (by decide +kernel)⟩, rfl⟩
theorem has_lst {a : Addr} {xs : List V} (h : H a = some (.lst xs)) : HasIs K H pl (.ref a) false := .inl ⟨fun H' S => ⟨_, tyL (SqL.of (S _ _ h)), kit_ty (by decide +kernel)⟩, rfl⟩
theorem has_not {t : Addr} {ns : List Int} (h : H t = some (.tup (ns.map V.int))) (l : ns.length ≤ 1000) (n : ns ∉ pl) : HasIs K H pl (.ref t) false := .inr (.inr ⟨t, ns, rfl, h, l, (decide_eq_false n).symm⟩)
theorem ints_is (as : List Int) : All2 (IntIs K H) (as.map V.int) (as.map fun _ => true) := by
  induction as with
  | nil => exact .nil
  | cons a as ih => exact .cons (.inl ⟨a, rfl, rfl⟩) ih
theorem has_odd {t : Addr} {as bs : List Int} {v : V} (h : H t = some (.tup ((as.map V.int ++ [v]) ++ bs.map V.int))) (l : as.length + 1 + bs.length ≤ 1000) (hv : IntIs K H v false) : HasIs K H pl (.ref t) false :=
  .inr (.inl ⟨t, _, ((as.map fun _ => true) ++ [false]) ++ bs.map fun _ => true, rfl, SqT.of h, by rw [List.length_append, List.length_append, List.length_map, List.length_map]; exact l, ((ints_is as).app (All2.one hv)).app (ints_is bs), by simp, rfl⟩)
end
/-- such as paths are -/
def PathLike (p : List Int) : Prop := p.length % 2 = 1 ∧ ∀ i ∈ p, 0 ≤ i ∧ i < 1000000000
def spWrong (K : PySem.W.Frag) : Sp := fun vs H Q _ => ∃ (t : Addr) (q : List Int) (pl : List (List Int)), vs = [.ref t] ∧ H t = some (.tup (q.map V.int)) ∧ PathLike q ∧ q.length ≤ 20 ∧ (∀ p ∈ pl, PathLike p) ∧
  ∀ (H' : Hp) (D : Addr) (ws : List V), Same H H' → H D = none → H' D = some (.lst ws) → (∀ v ∈ ws, HasIs K (RR H D H') pl v false) → Q (.ref D) H'
section
variable {P : Program} {w : World} {K : PySem.W.Frag} {mg : Str → Option Value} {base : Heap}
theorem ok_lwrong {f : Addr} {fd : FuncData} (F : FnP K "_law_wrong" "_law_wrong" s__law_wrong f fd) (T : Tx w K mg) : FnOk P w K mg base CX0 1 f fd p__law_wrong (spWrong K) := by
  refine F.ok sc__law_wrong (fun vs H Q E h => ?_) (fun cdv A outer s H vs Q E hr h => ?_)
  · obtain ⟨t, q, pl, rfl, _⟩ := h
    rfl
  · obtain ⟨t, q, pl, rfl, ht, ⟨ql, qi⟩, q20, hpl, k⟩ := h
    have qn : q ≠ [] := fun z => by rw [z] at ql; exact absurd ql (by decide)
    obtain ⟨sh, la, rfl⟩ : ∃ sh la, q = sh ++ [la] := ⟨q.dropLast, q.getLast qn, (List.dropLast_concat_getLast qn).symm⟩
    have hla := qi la (by simp)
    have l1 : (sh ++ [la]).length = sh.length + 1 := by rw [List.length_append]; rfl
    have lm : (((sh ++ [la]).map V.int).length : Int) - 1 = ((sh.length : Nat) : Int) := by rw [List.length_map, l1]; omega
    refine ⟨_, PSs.nox (pss_cons (ps_set (i := 1) sc__law_wrong.nd rfl (.inl rfl) (pe_ix ix_tup (pv 0) (pe_op op_sub (pe_callB call_len_seq (by rfl) T.b_len PySem.boot_len (pa_cons (pv 0) pa_nil)) pe_int) (fun _ _ => rfl)))
      (pss_cons (ps_set (i := 2) sc__law_wrong.nd rfl (.inl rfl) (pe_slice sl_tup (pv 0) po_none (po_some (pe_op op_sub (pe_callB call_len_seq (by rfl) T.b_len PySem.boot_len (pa_cons (pv 0) pa_nil)) pe_int))))
      (pss_cons (ps_set (i := 3) sc__law_wrong.nd rfl (.inl rfl) (pe_lst (pa_cons pe_non (pa_cons pe_str (pa_cons pe_int (pa_cons (pe_lst pa_nil) (pa_cons (pe_tup pa_nil) (pa_cons (pe_callTy call_list_of (by rfl) T.b_list (by decide +kernel) (pa_cons (pv 0) pa_nil)) (pa_cons (pv 2) (pa_cons (pe_op op_catA (pv 0) (pe_tup (pa_cons pe_int pa_nil))) (pa_cons (pe_op op_catA (pv 2) (pe_tup (pa_cons (pe_op op_add (pv 1) (pe_op op_pow pe_int pe_int)) pa_nil))) (pa_cons (pe_op op_catA (pv 2) (pe_tup (pa_cons (pe_un un_neg pe_int) pa_nil))) pa_nil))))))))))))
      (pss_cons (ps_set (i := 3) sc__law_wrong.nd rfl (.inl rfl) (pe_op op_cat (pv 3) (pe_lst (pa_cons (pe_op op_catA (pv 2) (pe_tup (pa_cons (pe_op op_sub (pe_un un_neg pe_int) (pv 1)) pa_nil))) (pa_cons (pe_op op_catA (pv 2) (pe_tup (pa_cons pe_str pa_nil))) (pa_cons (pe_op op_catA (pv 2) (pe_tup (pa_cons pe_non pa_nil))) (pa_cons (pe_tup (pa_cons (pv 0) pa_nil)) (pa_cons (pe_op op_catA (pv 2) (pe_tup (pa_cons (pe_op op_add (pe_op op_pow pe_int pe_int) (pv 1)) pa_nil))) pa_nil))))))))
      (pss_cons (ps_for PassesOwn.never rfl (pi_range1 (by rfl) T.b_range (pa_cons (pe_callB call_len_seq (by rfl) T.b_len PySem.boot_len (pa_cons (pv 0) pa_nil)) pa_nil)) (pg_name (i := 4) sc__law_wrong.nd rfl (.inl rfl)) (pss_one (ps_if (pt_cmpR op_in_seq (pe_ix ix_tup (pv 0) (pv 4) (fun _ _ => rfl)) (pe_tup (pa_cons pe_int (pa_cons pe_int pa_nil))) (by rfl)) (pss_one (ps_expr (pe_bm PySem.F.plainAttrs_list PySem.F.slot_list_append PySem.F.type_list_append mt_append (pv 3) (pa_cons (pe_op op_catA (pe_op op_catA (pe_slice sl_tup (pv 0) po_none (po_some (pv 4))) (pe_tup (pa_cons (pe_cmpR op_eq (pe_ix ix_tup (pv 0) (pv 4) (fun _ _ => rfl)) pe_int (nomark _)) pa_nil))) (pe_slice sl_tup (pv 0) (po_some (pe_op op_add (pv 4) pe_int)) po_none)) pa_nil)))) pss_nil)))
      (pss_one (ps_ret (pv 3)))))))), ?_⟩
    refine ⟨_, rfl, _, rfl, t, _, rfl, .inr (SqT.of ht), _, _, rfl, rfl, t, _, _, .int la, rfl, rfl, SqT.of ht, ?_, ?_⟩
    · rw [lm]
      exact atI_nat (by rw [List.map_append, List.getElem?_append_right (by rw [List.length_map]; exact Nat.le_refl _), List.length_map, Nat.sub_self]; rfl)
    refine ⟨_, rfl, _, rfl, t, _, rfl, .inr (SqT.of ht), _, _, rfl, rfl, _, rfl, t, _, rfl, SqT.of ht, ?_, fun s ns => ?_⟩
    · rintro ⟨_, z⟩
      rw [lm, six_hi, List.length_map, l1] at z
      omega
    rw [lm, cut_to (by rw [List.length_map, l1]; omega), show ((sh ++ [la]).map V.int).take sh.length = sh.map V.int by rw [List.map_append, List.take_append_of_le_length (by rw [List.length_map]; exact Nat.le_refl _), ← List.length_map (f := V.int), List.take_length]]
    have S1 : Same H (upd H s (.tup (sh.map V.int))) := Same.new ns
    have hs : upd H s (.tup (sh.map V.int)) s = some (.tup (sh.map V.int)) := upd_same
    generalize upd H s (.tup (sh.map V.int)) = H1 at S1 hs ⊢
    -- the first values
    refine ⟨by show 0 ≤ sizeLine; decide, fun e1 n1 => ?_⟩
    have S2 : Same H1 (upd H1 e1 (.lst [])) := Same.new n1
    have h1 : upd H1 e1 (.lst []) e1 = some (.lst []) := upd_same
    generalize upd H1 e1 (.lst []) = H2 at S2 h1 ⊢
    refine ⟨by show 0 ≤ sizeLine; decide, fun e2 n2 => ?_⟩
    have S3 : Same H2 (upd H2 e2 (.tup [])) := Same.new n2
    have h2 : upd H2 e2 (.tup []) e2 = some (.tup (([] : List Int).map V.int)) := upd_same
    generalize upd H2 e2 (.tup []) = H3 at S3 h2 ⊢
    have S13 := S1.trans (S2.trans S3)
    refine ⟨_, rfl, t, _, rfl, .inr (SqT.of (S13 _ _ ht)), fun e3 n3 => ?_⟩
    have S4 : Same H3 (upd H3 e3 (.lst ((sh ++ [la]).map V.int))) := Same.new n3
    have h3 : upd H3 e3 (.lst ((sh ++ [la]).map V.int)) e3 = some (.lst ((sh ++ [la]).map V.int)) := upd_same
    generalize upd H3 e3 (.lst ((sh ++ [la]).map V.int)) = H4 at S4 h3 ⊢
    have S14 := S13.trans S4
    refine ⟨_, rfl, _, rfl, by show 1 ≤ sizeLine; decide, catOne (S14 _ _ ht) (by rw [List.length_map]; omega) fun p1 H5 S5 hp1 => ?_⟩
    refine ⟨_, rfl, _, rfl, _, _, rfl, rfl, ⟨by decide, by decide, by decide⟩, _, _, rfl, rfl, by show 1 ≤ sizeLine; decide, catOne (S5 _ _ (S4 _ _ (S3 _ _ (S2 _ _ hs)))) (by rw [List.length_map]; omega) fun p2 H6 S6 hp2 => ?_⟩
    refine ⟨_, rfl, _, rfl, by show 1 ≤ sizeLine; decide, catOne (S6 _ _ (S5 _ _ (S4 _ _ (S3 _ _ (S2 _ _ hs))))) (by rw [List.length_map]; omega) fun p3 H7 S7 hp3 => ?_⟩
    have S17 : Same H1 H7 := S2.trans (S3.trans (S4.trans (S5.trans (S6.trans S7))))
    have hs7 := S17 _ _ hs
    refine ⟨by show 10 ≤ sizeLine; decide, fun D1 nD1 => ?_⟩
    have S8 : Same H7 (upd H7 D1 (.lst [.non, .str "0", .int 0, .ref e1, .ref e2, .ref e3, .ref s, .ref p1, .ref p2, .ref p3])) := Same.new nD1
    have hD1 : upd H7 D1 (.lst [.non, .str "0", .int 0, .ref e1, .ref e2, .ref e3, .ref s, .ref p1, .ref p2, .ref p3]) D1 = some (.lst [.non, .str "0", .int 0, .ref e1, .ref e2, .ref e3, .ref s, .ref p1, .ref p2, .ref p3]) := upd_same
    generalize upd H7 D1 (.lst [.non, .str "0", .int 0, .ref e1, .ref e2, .ref e3, .ref s, .ref p1, .ref p2, .ref p3]) = H8 at S8 hD1 ⊢
    -- more of them
    have hs8 := S8 _ _ hs7
    have lsh : (sh.map V.int).length ≤ 900 := by rw [List.length_map]; omega
    refine ⟨_, rfl, _, rfl, _, rfl, _, rfl, _, _, rfl, rfl, by show 1 ≤ sizeLine; decide, catOne hs8 lsh fun p4 H9 S9 hp4 => ?_⟩
    have hs9 := S9 _ _ hs8
    refine ⟨_, rfl, by show 1 ≤ sizeLine; decide, catOne hs9 lsh fun p5 H10 S10 hp5 => ?_⟩
    have hs10 := S10 _ _ hs9
    refine ⟨_, rfl, by show 1 ≤ sizeLine; decide, catOne hs10 lsh fun p6 H11 S11 hp6 => ?_⟩
    have hs11 := S11 _ _ hs10
    refine ⟨_, rfl, by show 1 ≤ sizeLine; decide, fun p7 np7 => ?_⟩
    have S12 : Same H11 (upd H11 p7 (.tup [.ref t])) := Same.new np7
    have hp7 : upd H11 p7 (.tup [.ref t]) p7 = some (.tup [.ref t]) := upd_same
    generalize upd H11 p7 (.tup [.ref t]) = H12 at S12 hp7 ⊢
    refine ⟨_, rfl, _, _, rfl, rfl, ⟨by decide, by decide, by decide⟩, _, rfl, _, _, rfl, rfl, by show 1 ≤ sizeLine; decide, catOne (S12 _ _ hs11) lsh fun p8 H13 S13' hp8 => ?_⟩
    refine ⟨by show 5 ≤ sizeLine; decide, fun D2 nD2 => ?_⟩
    have S14' : Same H13 (upd H13 D2 (.lst [.ref p4, .ref p5, .ref p6, .ref p7, .ref p8])) := Same.new nD2
    have hD2 : upd H13 D2 (.lst [.ref p4, .ref p5, .ref p6, .ref p7, .ref p8]) D2 = some (.lst [.ref p4, .ref p5, .ref p6, .ref p7, .ref p8]) := upd_same
    generalize upd H13 D2 (.lst [.ref p4, .ref p5, .ref p6, .ref p7, .ref p8]) = H14 at S14' hD2 ⊢
    have A13 := S13'.trans S14'
    have A12 := S12.trans A13
    have A11 := S11.trans A12
    have A10 := S10.trans A11
    have A9 := S9.trans A10
    have A8 := S8.trans A9
    have A7 := S7.trans A8
    have A6 := S6.trans A7
    have A5 := S5.trans A6
    have A4 := S4.trans A5
    have A3 := S3.trans A4
    have A2 := S2.trans A3
    have A1 := S1.trans A2
    refine ⟨D1, D2, _, _, rfl, rfl, A9 _ _ hD1, hD2, by show 15 ≤ sizeLine; decide, fun D3 nD3 => ?_⟩
    have S15 : Same H14 (upd H14 D3 (.lst ([.non, .str "0", .int 0, .ref e1, .ref e2, .ref e3, .ref s, .ref p1, .ref p2, .ref p3] ++ [.ref p4, .ref p5, .ref p6, .ref p7, .ref p8]))) := Same.new nD3
    have hD3 : upd H14 D3 (.lst ([.non, .str "0", .int 0, .ref e1, .ref e2, .ref e3, .ref s, .ref p1, .ref p2, .ref p3] ++ [.ref p4, .ref p5, .ref p6, .ref p7, .ref p8])) D3 = some (.lst ([.non, .str "0", .int 0, .ref e1, .ref e2, .ref e3, .ref s, .ref p1, .ref p2, .ref p3] ++ [.ref p4, .ref p5, .ref p6, .ref p7, .ref p8])) := upd_same
    generalize upd H14 D3 (.lst ([.non, .str "0", .int 0, .ref e1, .ref e2, .ref e3, .ref s, .ref p1, .ref p2, .ref p3] ++ [.ref p4, .ref p5, .ref p6, .ref p7, .ref p8])) = H15 at S15 hD3 ⊢
    have nH3 : H D3 = none := A1.free nD3
    have RT : ∀ {p : Addr} {xs : List V}, H14 p = some (.tup xs) → RR H D3 H15 p = some (.tup xs) := fun {p xs} e => by
      unfold RR
      rw [res_of (S := fun x => NL H x ∧ x ≠ D3) ⟨nl_tup A1 e, ne_of_none e nD3⟩]
      exact S15 _ _ e
    have RL : ∀ {p : Addr} {xs : List V}, H p = none → H14 p = some (.lst xs) → RR H D3 H15 p = some (.lst xs) := fun {p xs} n e => by
      unfold RR
      rw [res_of (S := fun x => NL H x ∧ x ≠ D3) ⟨NL.new n, ne_of_none e nD3⟩]
      exact S15 _ _ e
    have nin : ∀ {z : Int}, (z < 0 ∨ 1000000000 ≤ z) → sh ++ [z] ∉ pl := fun {z} h m => by
      have := (hpl _ m).2 z (by simp)
      omega
    have even : ∀ {ns : List Int}, ns.length % 2 = 0 → ns ∉ pl := fun {ns} h m => by
      have := (hpl _ m).1
      omega
    have app1 : ∀ {ns : List Int} {z : Int}, ns.map V.int ++ [V.int z] = (ns ++ [z]).map V.int := fun {ns z} => by rw [List.map_append]; rfl
    have f15 : ∀ v ∈ [V.non, .str "0", .int 0, .ref e1, .ref e2, .ref e3, .ref s, .ref p1, .ref p2, .ref p3] ++ [.ref p4, .ref p5, .ref p6, .ref p7, .ref p8], HasIs K (RR H D3 H15) pl v false := by
      have g : ∀ {z : Int} {p : Addr}, H14 p = some (.tup (sh.map V.int ++ [.int z])) → (z < 0 ∨ 1000000000 ≤ z) → HasIs K (RR H D3 H15) pl (.ref p) false := fun {z p} e h => has_not (ns := sh ++ [z]) (by rw [← app1]; exact RT e) (by rw [List.length_append]; show _ + 1 ≤ _; omega) (nin h)
      have o : ∀ {v : V} {p : Addr}, H14 p = some (.tup (sh.map V.int ++ [v])) → IntIs K (RR H D3 H15) v false → HasIs K (RR H D3 H15) pl (.ref p) false := fun {v p} e h => has_odd (as := sh) (bs := []) (by rw [List.map_nil, List.append_nil]; exact RT e) (by show sh.length + 1 + 0 ≤ _; omega) h
      intro v hv
      simp only [List.cons_append, List.nil_append, List.mem_cons, List.not_mem_nil, or_false] at hv
      rcases hv with rfl | rfl | rfl | rfl | rfl | rfl | rfl | rfl | rfl | rfl | rfl | rfl | rfl | rfl | rfl
      · exact has_non
      · exact has_str
      · exact has_int
      · exact has_lst (RL (S1.free n1) (A3 _ _ h1))
      · exact has_not (ns := []) (RT (A4 _ _ h2)) (by decide) (even (by decide))
      · exact has_lst (RL (S13.free n3) (A5 _ _ h3))
      · exact has_not (ns := sh) (RT (A2 _ _ hs)) (by omega) (even (by omega))
      · exact has_not (ns := (sh ++ [la]) ++ [0]) (by rw [← app1]; exact RT (A6 _ _ hp1)) (by rw [List.length_append]; show _ + 1 ≤ _; omega) (even (by rw [List.length_append]; show (_ + 1) % 2 = 0; omega))
      · exact g (A7 _ _ hp2) (.inr (by show 1000000000 ≤ la + 1000000000; omega))
      · exact g (A8 _ _ hp3) (.inl (by decide))
      · exact g (A10 _ _ hp4) (.inl (by show -1 - la < 0; omega))
      · exact o (A11 _ _ hp5) (.inr (.inr ⟨fun H' _ => ⟨_, .base (.str "0"), kit_ty (by decide +kernel)⟩, rfl⟩))
      · exact o (A12 _ _ hp6) (.inr (.inr ⟨fun H' _ => ⟨_, .base .non, kit_ty (by decide +kernel)⟩, rfl⟩))
      · exact has_odd (as := []) (bs := []) (v := .ref t) (RT (A13 _ _ hp7)) (by decide) (.inr (.inr ⟨fun H' S' => ⟨_, tyT (SqT.of (S' _ _ (RT (A1 _ _ ht)))), kit_ty (by decide +kernel)⟩, rfl⟩))
      · exact g (S14' _ _ hp8) (.inr (by show 1000000000 ≤ 10000000000000000000000000000000000000000 + la; omega))
    -- flags in the places of numbers
    have A0 := A1.trans S15
    clear A2 A3 A4 A5 A6 A7 A8 A9 A10 A11 A12 A13 S2 S3 S4 S5 S6 S7 S8 S9 S10 S11 S12 S13 S14 S13' S14' S17 h1 h2 h3 hp1 hp2 hp3 hp4 hp5 hp6 hp7 hp8 hD1 hD2
    have lw0 : (([V.non, .str "0", .int 0, .ref e1, .ref e2, .ref e3, .ref s, .ref p1, .ref p2, .ref p3] ++ [V.ref p4, .ref p5, .ref p6, .ref p7, .ref p8] : List V)).length ≤ 15 := Nat.le_refl 15
    generalize [V.non, .str "0", .int 0, .ref e1, .ref e2, .ref e3, .ref s, .ref p1, .ref p2, .ref p3] ++ [V.ref p4, .ref p5, .ref p6, .ref p7, .ref p8] = ws0 at hD3 f15 lw0
    generalize sh ++ [la] = q at ht q20
    refine ⟨_, rfl, t, _, rfl, .inr (SqT.of (A0 _ _ ht)), (q.length : Int), (by rw [List.length_map]), by omega, by omega, ?_⟩
    refine for_range (lo := 0) (n := q.length) (fun i σ H' => ∃ (ws : List V) (v4 : Option V), σ = [some (.ref t), some (.int la), some (.ref s), some (.ref D3), v4] ∧ Same H H' ∧ H' D3 = some (.lst ws) ∧ ws.length ≤ 15 + i ∧ ∀ v ∈ ws, HasIs K (RR H D3 H') pl v false)
      ⟨ws0, _, rfl, A0, hD3, lw0, f15⟩ (fun i σ H1 hi hq => ?_) (fun σ H1 hq => ?_)
    · obtain ⟨ws, v4, rfl, S1, hD, lw, fw⟩ := hq
      have e0 : (0 + (i : Int)) = (i : Int) := by omega
      have hx : q[i]? = some q[i] := List.getElem?_eq_getElem hi
      generalize q[i] = x at hx
      have hxv : (q.map V.int)[i]? = some (V.int x) := by rw [List.getElem?_map, hx]; rfl
      have ht1 := S1 _ _ ht
      refine ⟨_, rfl, _, rfl, t, _, _, .int x, rfl, rfl, SqT.of ht1, by rw [e0]; exact atI_nat hxv, by show 2 ≤ sizeLine; decide, fun b nb => ?_⟩
      have S2 : Same H1 (upd H1 b (.tup [.int 0, .int 1])) := Same.new nb
      have hb : upd H1 b (.tup [.int 0, .int 1]) b = some (.tup [.int 0, .int 1]) := upd_same
      generalize upd H1 b (.tup [.int 0, .int 1]) = H2 at S2 hb ⊢
      have S12 := S1.trans S2
      have hD' := S2 _ _ hD
      have fw2 : ∀ v ∈ ws, HasIs K (RR H D3 H2) pl v false := fun v hv => (fw v hv).same (rr_old0 S2)
      refine ⟨b, _, rfl, .inr (SqT.of hb), rfl, rfl, _, rfl, ?_⟩
      refine ite2 (fun e => ?_) (fun e => ?_)
      · have ht2 := S2 _ _ ht1
        refine ⟨_, rfl, Or.inl ⟨rfl, _, SqL.of hD'⟩, _, rfl, _, rfl, _, rfl, t, _, rfl, SqT.of ht2, ?_, fun a1 na1 => ?_⟩
        · rintro ⟨_, z⟩
          rw [e0, six_hi, List.length_map] at z
          omega
        rw [e0, cut_to (by rw [List.length_map]; omega), ← List.map_take]
        have S3 : Same H2 (upd H2 a1 (.tup ((q.take i).map V.int))) := Same.new na1
        have h1 : upd H2 a1 (.tup ((q.take i).map V.int)) a1 = some (.tup ((q.take i).map V.int)) := upd_same
        generalize upd H2 a1 (.tup ((q.take i).map V.int)) = H3 at S3 h1 ⊢
        refine ⟨_, rfl, _, rfl, t, _, _, .int x, rfl, rfl, SqT.of (S3 _ _ ht2), atI_nat hxv, rfl, by show 1 ≤ sizeLine; decide, catOne h1 (by rw [List.length_map, List.length_take]; omega) fun b1 H4 S4 hb1 => ?_⟩
        have ht4 := S4 _ _ (S3 _ _ ht2)
        refine ⟨_, rfl, _, rfl, _, _, rfl, rfl, _, rfl, t, _, rfl, SqT.of ht4, ?_, fun a2 na2 => ?_⟩
        · rintro ⟨z, _⟩
          have z : HT.sIx (q.map V.int).length 0 (some ((i + 1 : Nat) : Int)) = 0 := z
          rw [six_lo, List.length_map] at z
          omega
        rw [show (i : Int) + 1 = ((i + 1 : Nat) : Int) by omega, cut_from (by rw [List.length_map]; omega), ← List.map_drop]
        have S5 : Same H4 (upd H4 a2 (.tup ((q.drop (i + 1)).map V.int))) := Same.new na2
        have h2 : upd H4 a2 (.tup ((q.drop (i + 1)).map V.int)) a2 = some (.tup ((q.drop (i + 1)).map V.int)) := upd_same
        generalize upd H4 a2 (.tup ((q.drop (i + 1)).map V.int)) = H5 at S5 h2 ⊢
        refine catTup (S5 _ _ hb1) h2 (by rw [List.length_append, List.length_map, List.length_map, List.length_take, List.length_drop]; show _ + 1 + _ ≤ _; omega) fun b2 H6 S6 hb2 => ?_
        have S26 := S3.trans (S4.trans (S5.trans S6))
        have hD6 := S26 _ _ hD'
        refine ⟨D3, _, _, rfl, rfl, hD6, by rw [sizeLine_eq]; omega, ?_⟩
        have nb2 : b2 ≠ D3 := fun z => by rw [z, hD6] at hb2; cases hb2
        have S06 := S12.trans S26
        refine ⟨ws ++ [.ref b2], _, rfl, fun y o h => by rw [upd_ne (ne_of_none h nH3)]; exact S06 _ _ h, upd_same, by rw [List.length_append]; show _ + 1 ≤ _; omega, fun v hv => ?_⟩
        rcases List.mem_append.mp hv with h | h
        · exact (fw2 v h).same ((rr_old0 S26).trans rr_upd)
        · rw [List.mem_singleton.mp h]
          refine HasIs.same (H := RR H D3 H6) (has_odd (as := q.take i) (bs := q.drop (i + 1)) (v := .bl (decide (V.int x = V.int 1))) ?_ (by rw [List.length_take, List.length_drop]; omega) (.inr (.inl ⟨_, rfl, rfl⟩))) rr_upd
          unfold RR
          rw [res_of (S := fun x => NL H x ∧ x ≠ D3) ⟨nl_tup S06 hb2, nb2⟩]
          exact hb2
      · exact ⟨ws, _, rfl, S12, hD', by omega, fw2⟩
    · obtain ⟨ws, v4, rfl, S1, hD, lw, fw⟩ := hq
      exact ⟨_, rfl, k H1 D3 ws S1 nH3 hD fw⟩
end
end OR

set_option Elab.async false
set_option maxRecDepth 100000
set_option maxHeartbeats 4000000
set_option linter.all false
/-! sorted of a list of tuples of ints that ascends already; lists of such tuples, compared -/
namespace OR
open PySem PySem.Spec PyProof.Rows L2 TS2
def intsD (k : List Int) : PyData := .tuple (k.map .int)
theorem dp_intsAll {K : PySem.W.Frag} {H : Hp} : ∀ k : List Int, DpAll K H (k.map V.int) (k.map .int)
  | [] => .nil
  | i :: k => .cons (.int i) (dp_intsAll k)
theorem dp_ints {K : PySem.W.Frag} {H : Hp} {t : Addr} {k : List Int} (h : H t = some (.tup (k.map V.int))) : Dp K H (.ref t) (intsD k) := .tup (SqT.of h) (dp_intsAll k)
theorem dp_paths {K : PySem.W.Frag} {H : Hp} {ks : List (List Int)} {ts : List Addr} (h : All2 (fun k t => H t = some (.tup (k.map V.int))) ks ts) : DpAll K H (ts.map V.ref) (ks.map intsD) := by
  induction h with
  | nil => exact .nil
  | cons h _ ih => exact .cons (dp_ints h) ih
theorem lay_ints : ∀ k : List Int, PyData.canLayAll0 (k.map .int) = true ∧ PyData.depthAll (k.map .int) = 0
  | [] => ⟨by simp [PyData.canLayAll0], by simp [PyData.depthAll]⟩
  | i :: k => by
    obtain ⟨a, b⟩ := lay_ints k
    exact ⟨by simp [PyData.canLayAll0, PyData.canLay0, a], by simp [PyData.depthAll, PyData.depth, b]⟩
theorem lay_paths : ∀ ks : List (List Int), PyData.canLayAll0 (ks.map intsD) = true ∧ PyData.depthAll (ks.map intsD) ≤ 1
  | [] => ⟨by simp [PyData.canLayAll0], by simp [PyData.depthAll]⟩
  | k :: ks => by
    obtain ⟨a, b⟩ := lay_paths ks
    obtain ⟨c, d⟩ := lay_ints k
    refine ⟨by simp [PyData.canLayAll0, PyData.canLay0, intsD, a, c], ?_⟩
    simp only [List.map_cons, PyData.depthAll, intsD, PyData.depth, d]
    omega
theorem paths_shaped (ks : List (List Int)) : SeqAt.shaped (.list (ks.map intsD)) = true := by
  obtain ⟨a, b⟩ := lay_paths ks
  unfold SeqAt.shaped
  have e1 : PyData.canLay0 (.list (ks.map intsD)) = true := by simp only [PyData.canLay0]; exact a
  have e2 : (PyData.list (ks.map intsD)).depth ≤ 64 := by simp only [PyData.depth]; omega
  exact Bool.and_eq_true_iff.mpr ⟨e1, decide_eq_true e2⟩
theorem paths_eqv (ks : List (List Int)) : PyData.eqv (.list (ks.map intsD)) (.list (ks.map intsD)) = true := PySem.W.eqv_refl_alike _ (by
  simp only [PySem.W.alike]
  induction ks with
  | nil => rfl
  | cons k ks ih =>
    have := PySem.W.alike_ints k k
    simp only [List.map_cons, PySem.W.alikeAll, PySem.W.alike, intsD, this, Bool.true_and]
    exact ih)
theorem lexL_lt : ∀ a b : List Int, lexL a b → ¬ b < a
  | [], [], h => h.elim
  | [], _ :: _, _ => fun z => by cases z
  | _ :: _, [], h => h.elim
  | x :: a, y :: b, h => fun z => by
    rw [List.cons_lt_cons_iff] at z
    rcases h with h | ⟨e, h⟩
    · omega
    · rcases z with z | ⟨_, z⟩
      · omega
      · exact lexL_lt a b h z
abbrev encP (b : Addr × List Int) : PyData := intsD b.2
theorem le_paths {a b : Addr × List Int} (h : lexL a.2 b.2) : PySem.W.dataLe false encP a b = true := by
  show (!PySem.W.dataLt (intsD b.2) (intsD a.2)) = true
  have e : PySem.W.dataLt (intsD b.2) (intsD a.2) = decide (b.2 < a.2) := by
    unfold intsD
    rw [PySem.W.dataLt_tuple]
    exact PySem.W.dataLt_ints b.2 a.2
  rw [e, decide_eq_false (lexL_lt _ _ h)]
  rfl
theorem vals_refs : ∀ {ts : List Addr} {us : List Value}, Vals (ts.map V.ref) us → us = ts.map Value.ref
  | [], _, h => by cases h; rfl
  | t :: ts, _, h => by
    cases h with
    | cons a b =>
      have a : _ = Value.ref t := a
      rw [a, vals_refs b]
      rfl
theorem refs_vals : ∀ ts : List Addr, Vals (ts.map V.ref) (ts.map Value.ref)
  | [] => .nil
  | t :: ts => .cons rfl (refs_vals ts)
theorem each_refs : ∀ {ts : List Addr} {ks : List (List Int)}, ts.length = ks.length → PySem.W.EachIs (fun (v : Value) (b : Addr × List Int) => v = .ref b.1) (ts.map Value.ref) (ts.zip ks)
  | [], [], _ => .nil
  | [], _ :: _, h => by cases h
  | _ :: _, [], h => by cases h
  | t :: ts, k :: ks, h => .cons rfl (each_refs (Nat.succ.inj h))
theorem refs_each : ∀ {out : List Value} {bs : List (Addr × List Int)}, PySem.W.EachIs (fun (v : Value) (b : Addr × List Int) => v = .ref b.1) out bs → out = bs.map fun b => Value.ref b.1
  | _, _, .nil => rfl
  | _, _, .cons h t => by rw [h, refs_each t]; rfl
def rSortedT (K : PySem.W.Frag) : List V → Hp → VK → Prop := fun vs H Q => ∃ (a : Addr) (ts : List Addr) (ks : List (List Int)), vs = [V.ref a] ∧ SqL K H a (ts.map V.ref) ∧ All2 (fun k t => H t = some (.tup (k.map V.int))) ks ts ∧ (∀ k ∈ ks, k ≠ []) ∧ ks.Pairwise lexL ∧ ∀ p, H p = none → Q (.ref p) (upd H p (.lst (ts.map V.ref)))
theorem cr_sortedT {X : Cx} (hu : X.A.units + 64 < cLine) : CallR X (.builtin "sorted") (rSortedT X.K) := by
  intro pins s σ H vs us Q I r h
  obtain ⟨a, ts, ks, rfl, hs, hk, ne, asc, q⟩ := h
  obtain ⟨its, rv, hl, hz⟩ := I.list hs
  have ei := vals_refs rv
  subst ei
  rw [Vals.ref1 r]
  have len : ts.length = ks.length := hk.len.symm
  have mem : ∀ b ∈ ts.zip ks, H b.1 = some (.tup (b.2.map V.int)) ∧ b.2 ≠ [] := fun b hb => by
    obtain ⟨i, hi⟩ := List.getElem?_of_mem hb
    rw [List.getElem?_zip_eq_some] at hi
    obtain ⟨t, e1, e2⟩ := hk.right hi.2
    rw [hi.1] at e1
    cases e1
    exact ⟨e2, ne _ (List.mem_of_getElem? hi.2)⟩
  have rd : ∀ b ∈ ts.zip ks, ∃ as, Reads s.heap (.ref b.1) (encP b) as := fun b hb => Dp.reads I _ (V.ref b.1) _ (dp_ints (mem b hb).1) rfl
  have rds : PySem.W.EachIs (fun v b => ∃ as, Reads s.heap v (encP b) as) (ts.map Value.ref) (ts.zip ks) := by
    have : ∀ {xs : List Value} {bs : List (Addr × List Int)}, (∀ b ∈ bs, ∃ as, Reads s.heap (.ref b.1) (encP b) as) → PySem.W.EachIs (fun (v : Value) (b : Addr × List Int) => v = .ref b.1) xs bs → PySem.W.EachIs (fun v b => ∃ as, Reads s.heap v (encP b) as) xs bs := by
      intro xs bs hb e
      induction e with
      | nil => exact .nil
      | cons h t ih => exact .cons (by rw [h]; exact hb _ List.mem_cons_self) (ih fun b' hb' => hb b' (List.mem_cons_of_mem _ hb'))
    exact this rd (each_refs len)
  have lz : (ts.zip ks).length = ts.length := by rw [List.length_zip, len, Nat.min_self]
  have srt : (ts.zip ks).mergeSort (PySem.W.dataLe false encP) = ts.zip ks := by
    refine List.mergeSort_of_pairwise ?_
    have pz : (ts.zip ks).Pairwise fun a b => lexL a.2 b.2 := by
      have : (ts.zip ks).map (·.2) = ks := by rw [List.map_snd_zip (Nat.le_of_eq len.symm)]
      rw [← this] at asc
      exact List.pairwise_map.mp asc
    exact pz.imp fun h => le_paths h
  refine PySem.W.sorted_data (vs := ts.map Value.ref) (bs := ts.zip ks) (enc := encP) (R := fun v b => v = .ref b.1) hl.isList (each_refs len) rds (fun d hd d' hd' => ?_) (.inl fun d hd => ?_) ?_ (fun b hb => ?_) fun out ol oe => ?_
  · obtain ⟨x, _, rfl⟩ := List.mem_map.mp hd
    obtain ⟨y, _, rfl⟩ := List.mem_map.mp hd'
    show PySem.W.alike (.tuple (x.2.map .int)) (.tuple (y.2.map .int)) = true
    simp only [PySem.W.alike]
    exact PySem.W.alike_ints _ _
  · obtain ⟨x, hx, rfl⟩ := List.mem_map.mp hd
    obtain ⟨_, n⟩ := mem x hx
    cases e : x.2 with
    | nil => exact absurd e n
    | cons y r => exact ⟨.int y, r.map .int, by show intsD x.2 = _; rw [e]; rfl⟩
  · rw [lz]
    rw [List.length_map] at hz
    exact hz
  · show X.A.units + 2 + (intsD b.2).depth < cLine
    unfold intsD
    simp only [PyData.depth, (lay_ints b.2).2]
    omega
  · rw [srt] at oe
    have eo : out = ts.map Value.ref := by
      rw [refs_each oe]
      have : (ts.zip ks).map (·.1) = ts := by rw [List.map_fst_zip (Nat.le_of_eq len)]
      conv => rhs; rw [← this, List.map_map]
      rfl
    subst eo
    obtain ⟨z, at_⟩ := PyProof.Rows.sortedAll_at s.heap (ts.map Value.ref) (ts.map Value.ref).toArray
    have fresh := I.hok.fresh (Nat.le_succ s.heap.objs.size)
    refine ⟨.ref (s.heap.objs.size + 1), _, I.laid (t' := s.toks) (o := .lst (ts.map V.ref)) (fun _ _ e => PyProof.Rows.sortedAll_old e) (Nat.le_succ _) ⟨hz, ts.map Value.ref, z, refs_vals ts, at_⟩, rfl, q _ fresh⟩
end OR

set_option Elab.async false
set_option maxRecDepth 100000
set_option maxHeartbeats 8000000
set_option linter.all false
namespace OR
open PySem PySem.Spec PyProof.Rows L2 TS2
theorem SameV.le {K : PySem.W.Frag} {H : Hp} {n : Nat} {u v : V} (h : SameV K H n u v) : ∀ {m : Nat}, n ≤ m → SameV K H m u v := by
  induction h with
  | int i => intro m hm; obtain ⟨k, rfl⟩ : ∃ k, m = k + 1 := ⟨m - 1, by omega⟩; exact .int i
  | str z => intro m hm; obtain ⟨k, rfl⟩ : ∃ k, m = k + 1 := ⟨m - 1, by omega⟩; exact .str z
  | lst ha hb few el _ ih => intro m hm; obtain ⟨k, rfl⟩ : ∃ k, m = k + 1 := ⟨m - 1, by omega⟩; exact .lst ha hb few el fun i x y h1 h2 => ih i x y h1 h2 (by omega)
  | tup ha hb few el _ ih => intro m hm; obtain ⟨k, rfl⟩ : ∃ k, m = k + 1 := ⟨m - 1, by omega⟩; exact .tup ha hb few el fun i x y h1 h2 => ih i x y h1 h2 (by omega)
theorem same_ints {K : PySem.W.Frag} {H : Hp} {a b : Addr} {p : List Int} (ha : H a = some (.tup (p.map V.int))) (hb : H b = some (.tup (p.map V.int))) (few : p.length ≤ 1000) : SameV K H 2 (.ref a) (.ref b) := by
  refine .tup (SqT.of ha) (SqT.of hb) (by rw [List.length_map]; exact few) rfl fun i x y h1 h2 => ?_
  rw [h1] at h2
  cases h2
  obtain ⟨z, _, rfl⟩ := List.mem_map.mp (List.mem_of_getElem? h1)
  exact .int z
theorem same_paths {K : PySem.W.Frag} {H : Hp} {a b : Addr} {P : List (List Int)} {pa pb : List Addr} (ha : H a = some (.lst (pa.map V.ref))) (hb : H b = some (.lst (pb.map V.ref))) (hpa : PathsAt H P pa) (hpb : PathsAt H P pb) (few : P.length ≤ 1000) (each : ∀ p ∈ P, p.length ≤ 1000) : SameV K H 3 (.ref a) (.ref b) := by
  refine .lst (SqL.of ha) (SqL.of hb) (by rw [List.length_map, ← hpa.len]; exact few) (by rw [List.length_map, List.length_map, ← hpa.len, ← hpb.len]) fun i x y h1 h2 => ?_
  rw [List.getElem?_map] at h1 h2
  cases e1 : pa[i]? with
  | none => rw [e1] at h1; cases h1
  | some t =>
  rw [e1] at h1
  cases h1
  cases e2 : pb[i]? with
  | none => rw [e2] at h2; cases h2
  | some u =>
  rw [e2] at h2
  cases h2
  obtain ⟨p, hp, ht⟩ := hpa.other e1
  obtain ⟨p', hp', hu⟩ := hpb.other e2
  rw [hp] at hp'
  cases hp'
  exact same_ints ht hu (each p (List.mem_of_getElem? hp))
theorem at_like {kt : Kit} : ∀ (d : Nat) (il : Bool) (rows : List (Row d)) (q : List Int) (x : AnyRow), At d rows q x → (∀ r ∈ rows, Good kt d il r) → lsz d rows ≤ 14 → PathLike q ∧ q.length + 1 ≤ 2 * d
  | 0, _, _, _, _, h, _, _ => h.elim
  | _ + 1, _, _, [], _, h, _, _ => h.elim
  | d + 1, il, rows, [i], x, h, g, few => by
    obtain ⟨r, hr, hi, _⟩ := h
    have h1 := (List.getElem?_eq_some_iff.mp hr).1
    have h2 := lsz_len (d := d + 1) (by omega) rows
    refine ⟨⟨rfl, fun j hj => ?_⟩, by show 1 + 1 ≤ _; omega⟩
    rw [List.mem_singleton.mp hj]
    omega
  | d + 1, il, rows, i :: j :: rest, x, h, g, few => by
    obtain ⟨r, l, hr, hi, hl, hj, ha⟩ := h
    have h1 := (List.getElem?_eq_some_iff.mp hr).1
    have h2 := lsz_len (d := d + 1) (by omega) rows
    obtain ⟨lo, _, hk⟩ := g r (List.mem_of_getElem? hr)
    have h3 := (List.getElem?_eq_some_iff.mp hl).1
    have h4 := (lo_kids lo).2.1
    have hm := List.mem_of_getElem? hl
    have h5 := kid_le hm
    have h6 := lsz_take1 hr
    obtain ⟨⟨p1, p2⟩, p3⟩ := at_like d _ l rest x ha (hk l hm) (by omega)
    refine ⟨⟨by show (rest.length + 2) % 2 = 1; omega, fun k hk => ?_⟩, by show rest.length + 2 + 1 ≤ _; omega⟩
    rcases List.mem_cons.mp hk with rfl | hk
    · omega
    · rcases List.mem_cons.mp hk with rfl | hk
      · omega
      · exact p2 k hk
theorem good_flatG {kt : Kit} : ∀ (d : Nat) (il : Bool) (r : Row d), Good kt d il r → ∀ x ∈ flatR d r, ∃ il', Good kt (x.1 + 1) il' x.2
  | 0, _, r, _, _, _ => nomatch r
  | d + 1, il, r, h, x, hx => by
    rcases List.mem_cons.mp hx with rfl | hx
    · exact ⟨il, h⟩
    · obtain ⟨l1, h1, h2⟩ := List.mem_flatten.mp hx
      obtain ⟨l, hl, rfl⟩ := List.mem_map.mp h1
      obtain ⟨l2, h3, h4⟩ := List.mem_flatten.mp h2
      obtain ⟨r', hr', rfl⟩ := List.mem_map.mp h3
      exact good_flatG d _ r' (h.2.2 l hl r' hr') x h4
theorem good_flatGL {kt : Kit} {d : Nat} {il : Bool} {rows : List (Row d)} (g : ∀ r ∈ rows, Good kt d il r) : ∀ x ∈ flatL d rows, ∃ il', Good kt (x.1 + 1) il' x.2 := fun x hx => by
  obtain ⟨l2, h3, h4⟩ := List.mem_flatten.mp hx
  obtain ⟨r', hr', rfl⟩ := List.mem_map.mp h3
  exact good_flatG d il r' (g r' hr') x h4
theorem dT_le : ∀ {a b : Nat}, a ≤ b → dT a ≤ dT b := by
  intro a b h
  have e : ∀ n, dT n = 3 * n := by
    intro n
    induction n with
    | zero => rfl
    | succ n ih => show dT n + 3 = _; omega
  rw [e, e]
  omega
/-- two rows that are one, copied or not -/
theorem same_row {kt : Kit} {il : Bool} {K : PySem.W.Frag} {H : Hp} {d : Nat} {r : Row d} {u v : V} (g : Good kt d il r) (hd : d ≤ 5) (h1 : RowAt K H d r u) (h2 : RowAt K H d r v) : SameV K H 16 u v :=
  (same_of (row_tr (good_few d il r g) h1) (row_tr (good_few d il r g) h2)).le (Nat.le_trans (dT_le hd) (by decide))
theorem same_rows {kt : Kit} {il : Bool} {K : PySem.W.Frag} {H : Hp} {rows : List (Row 5)} {a b : Addr} {xs ys : List V} (g : ∀ r ∈ rows, Good kt 5 il r) (l : rows.length ≤ 1000) (ha : H a = some (.lst xs)) (hb : H b = some (.lst ys)) (h1 : All2 (RowAt K H 5) rows xs) (h2 : All2 (RowAt K H 5) rows ys) : SameV K H 16 (.ref a) (.ref b) := by
  refine .lst (SqL.of ha) (SqL.of hb) (by rw [← h1.len]; exact l) (by rw [← h1.len, ← h2.len]) fun i x y e1 e2 => ?_
  obtain ⟨r, hr, q1⟩ := h1.other e1
  obtain ⟨r', hr', q2⟩ := h2.other e2
  rw [hr] at hr'
  cases hr'
  have gr := g r (List.mem_of_getElem? hr)
  exact same_of (row_tr (good_few 5 il r gr) q1) (row_tr (good_few 5 il r gr) q2)
end OR

set_option Elab.async false
set_option maxRecDepth 100000
set_option maxHeartbeats 8000000
set_option linter.all false
namespace OR
open PySem PySem.Spec PyProof.Rows L2 TS2
def spLListsA (K : PySem.W.Frag) : Sp := fun vs H Q E => ∃ d, spLLists K d vs H Q E
def spLaw (K : PySem.W.Frag) : Sp := fun vs H Q _ => ∃ (a : Addr) (ns : List Int), vs = [.ref a] ∧ SqL K H a (ns.map V.int) ∧ ns.length ≤ 63 ∧ ∀ H', Q (.bl true) H'
section
variable {P : Program} {w : World} {K : PySem.W.Frag} {mg : Str → Option Value} {base : Heap}
theorem ok_law {k0 k1 k2 k3 k4 k5 k6 k7 k8 : Nat} {f : Addr} {fd : FuncData} (F : FnP K "law" "law" s_law f fd) (T : Tx w K mg) (h0 : 1 ≤ k0) (h1 : k1 ≤ k0) (h2 : k2 ≤ k0) (h3 : k3 ≤ k0) (h4 : k4 ≤ k0) (h5 : k5 ≤ k0) (h6 : k6 ≤ k0) (h7 : k7 ≤ k0) (h8 : k8 ≤ k0)
    (G__law_bag : Def P w K mg base CX0 1 "_law_bag" p__law_bag (spBag K)) (G__law_draw : Def P w K mg base CX0 1 "_law_draw" p__law_draw spDraw) (G__law_plan : Def P w K mg base CX0 k1 "_law_plan" p__law_plan (spLPlan K)) (G__law_program : Def P w K mg base CX0 k2 "_law_program" p__law_program (spLProg K))
    (G__law_paths : Def P w K mg base CX0 k3 "_law_paths" p__law_paths (spLPaths K 5)) (G__law_same : Def P w K mg base CX0 k4 "_law_same" p__law_same (spSame K 16)) (G__law_at : Def P w K mg base CX0 k5 "_law_at" p__law_at (spLAt K 5)) (G__law_lists : Def P w K mg base CX0 1 "_law_lists" p__law_lists (spLListsA K))
    (G__law_wrong : Def P w K mg base CX0 1 "_law_wrong" p__law_wrong (spWrong K)) (G__law_refused : Def P w K mg base CX0 k6 "_law_refused" p__law_refused (spLRef K)) (M_paths : MDef P w K mg base CX0 1 (He.ga K "Program") "paths" p_Program_paths (spPaths K 5)) (M_rows : MDef P w K mg base CX0 k7 (He.ga K "Program") "rows" p_Program_rows (spRows K 5)) (M_row_at : MDef P w K mg base (L2.CX P w) k8 (He.ga K "Program") "row_at" p_Program_row_at (spRowAt K 5)) : FnOk P w K mg base CX0 (k0 + 1) f fd p_law (spLaw K) := by
  refine F.ok sc_law (fun vs H Q E h => ?_) (fun cdv A outer s H vs Q E hr h => ?_)
  · obtain ⟨a, ns, rfl, _⟩ := h
    rfl
  · obtain ⟨a, ns, rfl, ha, hn, k⟩ := h
    have hu := hu_of hr
    refine ⟨_, PSs.nox (pss_cons (ps_set (i := 1) sc_law.nd rfl (.inl rfl) (pe_fn G__law_bag (hr.mono (by omega)) (by rfl) pass0 (pa_cons (pv 0) pa_nil)))
      (pss_cons (ps_set (i := 2) sc_law.nd rfl (.inl rfl) (pe_fn G__law_plan (hr.mono (by omega)) (by rfl) pass0 (pa_cons (pv 1) (pa_cons pe_int (pa_cons pe_int (pa_cons (pe_cmpR op_eq (pe_fn G__law_draw (hr.mono (by omega)) (by rfl) pass0 (pa_cons (pv 1) (pa_cons pe_int pa_nil))) pe_int (nomark _)) pa_nil))))))
      (pss_cons (ps_set (i := 3) sc_law.nd rfl (.inl rfl) (pe_fn G__law_program (hr.mono (by omega)) (by rfl) pass0 (pa_cons (pv 2) pa_nil)))
      (pss_cons (ps_set (i := 4) sc_law.nd rfl (.inl rfl) (pe_fn G__law_paths (hr.mono (by omega)) (by rfl) pass0 (pa_cons (pe_dget hu (pv 2) pe_str (fun _ _ => rfl)) (pa_cons (pe_tup pa_nil) pa_nil))))
      (pss_cons (ps_if (PW.pt (pw_or (pt_not (pt_val (pe_fn G__law_same (hr.mono (by omega)) (by rfl) pass0 (pa_cons (pe_mth0 M_paths (hr.mono (by omega)) pass0 (pv 3)) (pa_cons (pv 4) pa_nil))))) (pw_or1 (pt_cmpR (op_neD hr.units) (pv 4) (pe_callB (cr_sortedT hr.units) (by rfl) T.b_sorted (by decide +kernel) (pa_cons (pv 4) pa_nil)) (nomark _))))) (pss_one (ps_ret pe_bl)) pss_nil)
      (pss_cons (ps_for PassesOwn.never rfl (pi_list (pv 4)) (pg_name (i := 5) sc_law.nd rfl (.inl rfl)) (pss_cons (ps_set (i := 8) sc_law.nd rfl (.inl rfl) (pe_mthS (E := fun _ _ _ _ => False) M_row_at (hr.mono (by omega)) (fun _ => passF) (pv 3) (pa_cons (pv 5) pa_nil)))
      (pss_cons (ps_if (pt_not (pt_val (pe_fn G__law_same (hr.mono (by omega)) (by rfl) pass0 (pa_cons (pv 8) (pa_cons (pe_fn G__law_at (hr.mono (by omega)) (by rfl) pass0 (pa_cons (pe_dget hu (pv 2) pe_str (fun _ _ => rfl)) (pa_cons (pv 5) pa_nil))) pa_nil))))) (pss_one (ps_ret pe_bl)) pss_nil)
      (pss_cons (ps_for PassesOwn.never rfl (pi_list (pe_fn G__law_lists (hr.mono (by omega)) (by rfl) pass0 (pa_cons (pv 8) pa_nil))) (pg_name (i := 9) sc_law.nd rfl (.inl rfl)) (pss_one (ps_expr (pe_bm PySem.F.plainAttrs_list PySem.F.slot_list_append PySem.F.type_list_append mt_append (pv 9) (pa_cons pe_non pa_nil)))))
      (pss_one (ps_if (pt_not (pt_val (pe_fn G__law_same (hr.mono (by omega)) (by rfl) pass0 (pa_cons (pe_mthS (E := fun _ _ _ _ => False) M_row_at (hr.mono (by omega)) (fun _ => passF) (pv 3) (pa_cons (pv 5) pa_nil)) (pa_cons (pe_fn G__law_at (hr.mono (by omega)) (by rfl) pass0 (pa_cons (pe_dget hu (pv 2) pe_str (fun _ _ => rfl)) (pa_cons (pv 5) pa_nil))) pa_nil))))) (pss_one (ps_ret pe_bl)) pss_nil))))))
      (pss_cons (ps_if (pt_not (pt_val (pe_fn G__law_same (hr.mono (by omega)) (by rfl) pass0 (pa_cons (pe_mth0 M_rows (hr.mono (by omega)) pass0 (pv 3)) (pa_cons (pe_dget hu (pv 2) pe_str (fun _ _ => rfl)) pa_nil))))) (pss_one (ps_ret pe_bl)) pss_nil)
      (pss_cons (ps_set (i := 6) sc_law.nd rfl (.inl rfl) (pe_tup (pa_cons pe_int pa_nil)))
      (C8.pss_cut (ps_if (pt_cmpR op_gt (pe_callB call_len_seq (by rfl) T.b_len PySem.boot_len (pa_cons (pv 4) pa_nil)) pe_int (nomark _)) (pss_one (ps_set (i := 6) sc_law.nd rfl (.inl rfl) (pe_ix ix_list (pv 4) (pe_fn G__law_draw (hr.mono (by omega)) (by rfl) pass0 (pa_cons (pv 1) (pa_cons (pe_callB call_len_seq (by rfl) T.b_len PySem.boot_len (pa_cons (pv 4) pa_nil)) pa_nil))) (fun _ _ => rfl)))) pss_nil)
      (pss_cons (ps_for PassesOwn.never rfl (pi_list (pe_fn G__law_wrong (hr.mono (by omega)) (by rfl) pass0 (pa_cons (pv 6) pa_nil))) (pg_name (i := 7) sc_law.nd rfl (.inl rfl)) (pss_one (ps_if (pt_not (pt_val (pe_fn G__law_refused (hr.mono (by omega)) (by rfl) pass0 (pa_cons (pv 3) (pa_cons (pv 7) pa_nil))))) (pss_one (ps_ret pe_bl)) pss_nil)))
      (pss_cons (ps_expr (pe_bm PySem.F.plainAttrs_list PySem.F.slot_list_append PySem.F.type_list_append mt_append (pe_mth0 M_paths (hr.mono (by omega)) pass0 (pv 3)) (pa_cons (pe_tup (pa_cons pe_int pa_nil)) pa_nil)))
      (pss_cons (ps_if (pt_not (pt_val (pe_fn G__law_refused (hr.mono (by omega)) (by rfl) pass0 (pa_cons (pv 3) (pa_cons (pe_tup (pa_cons pe_int pa_nil)) pa_nil))))) (pss_one ps_never) pss_nil)
      (pss_one (ps_ret (pe_fn G__law_same (hr.mono (by omega)) (by rfl) pass0 (pa_cons (pe_mth0 M_paths (hr.mono (by omega)) pass0 (pv 3)) (pa_cons (pv 4) pa_nil))))))))))))))))), ?_⟩
    refine ⟨_, rfl, a, ns, rfl, ha, hn, fun b c H1 S01 nb nc hb1 => ?_⟩
    refine ⟨_, rfl, _, rfl, b, c, 2, rfl, hb1, by decide, fun d H2 hd hb2 ho2 => ⟨rfl, ?_⟩⟩
    refine ⟨b, c, 14, decide (V.int (d : Int) = V.int 1), rfl, hb2, by decide, fun H3 kd kt a' s' i D xs rows TA TS bs3 hb3 nkd nbx lpl lpi => ?_⟩
    obtain ⟨kvb, hkb⟩ := hb3.dk
    refine ⟨_, rfl, kd, kt, a', s', i, D, xs, rows, TA, TS, rfl, lpl, lpi, fun H4 Hr p dx S34 np dr SR4 apart => ?_⟩
    have rb : Hr b = none := apart b kvb hkb
    have lp4 := lpl.same S34
    have hb4 := hb3.same S34
    -- the paths that are due
    obtain ⟨rm, g, l, sl, w0, ob4⟩ := lp4.ob
    refine ⟨_, rfl, kd, _, rfl, DGet.k (k := .inr "rows") ob4, by show 0 ≤ sizeLine; decide, fun q0 nq0 => ?_⟩
    have S45 : Same H4 (upd H4 q0 (.tup [])) := Same.new nq0
    have hq0 : upd H4 q0 (.tup []) q0 = some (.tup (([] : List Int).map V.int)) := upd_same
    generalize upd H4 q0 (.tup []) = H5 at S45 hq0 ⊢
    have lp5 := lp4.same S45
    refine ⟨D, q0, xs, rows, [], kt, false, rfl, lp5.hD, lp5.rows, lpi.good, lpi.few, hq0, by decide, fun H6 Du pa S56 nDu hDu hpa => ?_⟩
    have S46 := S45.trans S56
    have lp6 := lp4.same S46
    have hb6 := hb4.same S46
    have SR6 : Same Hr H6 := SR4.trans S46
    generalize hP : pathsL (4 + 1) rows [] = PP at hpa
    have hpl : (planOf 5 rows).pl = PP := by rw [pl_plan]; exact hP
    have hfl : (planOf 5 rows).fl = flatL 5 rows := by
      obtain ⟨_, _, _, _, _, _, _, _, _, _, _, _, sh, _⟩ := dr
      exact fl_plan sh
    have hat : All2 (fun p x => ∃ q, p = [] ++ q ∧ At 5 rows q x) PP (flatL 5 rows) := hP ▸ at_L 5 rows []
    have like : ∀ p ∈ PP, PathLike p ∧ p.length ≤ 9 := fun p hp => by
      obtain ⟨i, hi⟩ := List.getElem?_of_mem hp
      obtain ⟨x, _, q, e, ha⟩ := hat.right hi
      have e : p = q := e
      subst e
      obtain ⟨h1, h2⟩ := at_like 5 false rows p x ha lpi.good lpi.few
      exact ⟨h1, by omega⟩
    have lPP : PP.length ≤ 14 := by rw [hat.len, flatL_len]; exact lpi.few
    have ascP : PP.Pairwise lexL := hP ▸ (asc_L 5 rows []).1
    have pgE : ∀ {Hx : Hp}, Same Hr Hx → PgAt K Hx p kt.ka kt.ks (.ref i) 5 rows := fun {Hx} S => ⟨Hr, dx, dr, S⟩
    have pOb : ∃ fs, Hr p = some (.ins (He.ga K "Program") dx fs) ∧ fs.lookup ("paths" : Str) = none ∧ fs.lookup ("rows" : Str) = none ∧ fs.lookup ("row_at" : Str) = none := by
      obtain ⟨_, _, _, _, _, _, _, h0, _⟩ := dr
      exact ⟨_, h0, rfl, rfl, rfl⟩
    obtain ⟨fs, hpr, fl1, fl2, fl3⟩ := pOb
    -- the program's paths, against them and their order
    refine ⟨_, rfl, p, dx, fs, rfl, SR6 _ _ hpr, fl1, p, kt.ka, kt.ks, .ref i, rows, rfl, pgE SR6, fun H7 D7 pa7 S67 nD7 hD7 hpa7 => ?_⟩
    rw [hpl] at hpa7
    have hDu7 := S67 _ _ hDu
    have hpau7 : PathsAt H7 PP pa := hpa.imp fun _ _ _ e => S67 _ _ e
    refine ⟨_, rfl, .ref D7, .ref Du, rfl, (same_paths hD7 hDu7 hpa7 hpau7 (by omega) fun p hp => by have := (like p hp).2; omega).le (by decide), fun H8 S78 => ?_⟩
    refine ⟨_, rfl, ?_⟩
    refine iteF ?_
    have S68 := S67.trans S78
    have hDu8 := S68 _ _ hDu
    have hpau8 : PathsAt H8 PP pa := hpa.imp fun _ _ _ e => S68 _ _ e
    refine ⟨_, rfl, _, rfl, Du, pa, PP, rfl, SqL.of hDu8, hpau8, fun k hk => ?_, ascP, fun Ds nDs => ?_⟩
    · intro z
      have := (like k hk).1.1
      rw [z] at this
      exact absurd this (by decide)
    have S89 : Same H8 (upd H8 Ds (.lst (pa.map V.ref))) := Same.new nDs
    have hDs : upd H8 Ds (.lst (pa.map V.ref)) Ds = some (.lst (pa.map V.ref)) := upd_same
    generalize upd H8 Ds (.lst (pa.map V.ref)) = H9 at S89 hDs ⊢
    have hpau9 : PathsAt H9 PP pa := hpau8.imp fun _ _ _ e => S89 _ _ e
    refine ⟨.list (PP.map intsD), .list (PP.map intsD), .lst (SqL.of (S89 _ _ hDu8)) (dp_paths hpau9), .lst (SqL.of hDs) (dp_paths hpau9), paths_shaped PP, paths_shaped PP, _, rfl, ?_⟩
    rw [paths_eqv]
    refine iteF ?_
    have S69 := S68.trans S89
    have lp9 := lp6.same S69
    have SR9 := SR6.trans S69
    have hb9 := hb6.same S69
    have hDu9 := S69 _ _ hDu
    clear hDs hpa7 hD7 hpau7 hpau8 S78 S89 S67 S68
    -- each row at its path
    refine ⟨_, rfl, Du, rfl, ⟨_, SqL.of hDu9⟩, ?_⟩
    refine for_it (walk_list (K := K) (a := Du) (xs := pa.map V.ref)) (fun i2 σ H' => ∃ v5 v8 v9 : Option V, σ = [some (.ref a), some (.ref b), some (.ref kd), some (.ref p), some (.ref Du), v5, none, none, v8, v9] ∧ Same H9 H') ⟨_, _, _, rfl, Same.refl H9⟩ (fun i2 σ H' _ q => ?_) (fun i2 x σ H10 H11 hi q y => ?_) (fun σ H10 q => ?_)
    · obtain ⟨_, _, _, _, S⟩ := q
      exact SqL.of (S _ _ hDu9)
    · obtain ⟨v5, v8, v9, rfl, S10⟩ := q
      obtain ⟨rfl, hx⟩ := y
      rw [List.getElem?_map] at hx
      cases et : pa[i2]? with
      | none => rw [et] at hx; cases hx
      | some t =>
      rw [et] at hx
      cases Option.some.inj hx
      obtain ⟨path, hpath, ht9⟩ := hpau9.other et
      obtain ⟨fx, hfx, q, eq, hAt⟩ := hat.right hpath
      have eq : path = q := eq
      subst eq
      have hmf := List.mem_of_getElem? hfx
      obtain ⟨il', gf⟩ := good_flatGL lpi.good fx hmf
      have fx5 : fx.1 + 1 ≤ 5 := flatL_lt 5 rows fx hmf
      have lpth : path.length ≤ 1000 := by have := (like path (List.mem_of_getElem? hpath)).2; omega
      -- told, and what is due
      have SR11 := SR9.trans S10
      have lp11 := lp9.same S10
      refine ⟨_, rfl, p, dx, fs, rfl, SR11 _ _ hpr, fl3, _, rfl, p, .ref t, kt.ka, kt.ks, .ref i, rows, rfl, pgE SR11, .inr ⟨t, path, i2, fx, rfl, S10 _ _ ht9, lpth, by rw [hpl]; exact hpath, by rw [hfl]; exact hfx, fun H12 y S12 hy => ?_⟩⟩
      have lp12 := lp11.same S12
      obtain ⟨r2, g2, l2, sl2, w2, ob12⟩ := lp12.ob
      refine ⟨_, rfl, _, rfl, kd, _, rfl, DGet.k (k := .inr "rows") ob12, _, rfl, D, t, xs, rows, path, fx, kt, false, rfl, lp12.hD, lp12.rows, lpi.good, S12 _ _ (S10 _ _ ht9), hAt, fun H13 y2 S13 hy2 => ?_⟩
      refine ⟨y, y2, rfl, same_row gf fx5 (RowAt.mono (res_same.trans S13) hy) hy2, fun H14 S14 => ⟨_, rfl, iteF ?_⟩⟩
      have S1114 := S12.trans (S13.trans S14)
      -- its lists are changed
      refine ⟨_, rfl, fx.1, y, fx.2, res (NL H11) H12, rfl, res_same.trans (S13.trans S14), hy, ⟨kt, il', gf.1⟩, fun H15 DL Ls S15 nDL hDL hLs => ?_⟩
      refine ⟨DL, rfl, ⟨_, SqL.of hDL⟩, ?_⟩
      have lk := (lo_kids gf.1).2.2
      have lkn := (lo_kids gf.1).2.1
      refine for_it (walk_list (K := K) (a := DL) (xs := Ls)) (fun j σ H' => ∃ v9 : Option V, σ = [some (.ref a), some (.ref b), some (.ref kd), some (.ref p), some (.ref Du), some (.ref t), none, none, some y, v9] ∧ Same H11 H' ∧ H' DL = some (.lst Ls) ∧ ∀ v ∈ Ls, ∃ (La : Addr) (zs : List V), v = .ref La ∧ H' La = some (.lst zs) ∧ zs.length ≤ 14 + j ∧ H11 La = none ∧ La ≠ DL)
        ⟨_, rfl, S1114.trans S15, hDL, fun v hv => ?_⟩ (fun j σ H' _ q => ?_) (fun j v σ H16 H17 hj q yy => ?_) (fun σ H16 q => ?_)
      · obtain ⟨jj, hjj⟩ := List.getElem?_of_mem hv
        obtain ⟨l3, hl3, La, zs, rfl, hLa, hzs⟩ := hLs.other hjj
        obtain ⟨nla, e12⟩ := res_some hLa
        refine ⟨La, zs, rfl, S15 _ _ (S14 _ _ (S13 _ _ e12)), ?_, ?_, ne_of_none (S14 _ _ (S13 _ _ e12)) nDL⟩
        · have := lk l3 (List.mem_of_getElem? hl3)
          have := hzs.len
          omega
        · cases z : H11 La with
          | none => rfl
          | some o =>
            have e := S12 _ _ z
            rw [e12] at e
            cases Option.some.inj e
            exact (nla.no z rfl).elim
      · obtain ⟨_, _, _, h, _⟩ := q
        exact SqL.of h
      · obtain ⟨v9, rfl, S16, hDL16, hls⟩ := q
        obtain ⟨rfl, hv⟩ := yy
        obtain ⟨La, zs, rfl, hLa, lz, fr, ne⟩ := hls v (List.mem_of_getElem? hv)
        have hj12 : j < 12 := by have := hLs.len; omega
        refine ⟨_, rfl, Or.inl ⟨rfl, _, SqL.of hLa⟩, La, _, _, rfl, rfl, hLa, by rw [sizeLine_eq]; omega, ?_⟩
        refine ⟨_, rfl, fun z o e => by rw [upd_ne (ne_of_none e fr)]; exact S16 _ _ e, by rw [upd_ne ne.symm]; exact hDL16, fun u hu => ?_⟩
        obtain ⟨Lb, zb, rfl, hLb, lb, fb, nb2⟩ := hls u hu
        by_cases eb : Lb = La
        · subst eb
          refine ⟨Lb, _, rfl, upd_same, ?_, fb, nb2⟩
          rw [List.length_append]
          show _ + 1 ≤ _
          omega
        · exact ⟨Lb, zb, rfl, by rw [upd_ne eb]; exact hLb, by omega, fb, nb2⟩
      · obtain ⟨v9, rfl, S16, _, _⟩ := q
        -- and it is told as before
        have SR16 := SR11.trans S16
        refine ⟨_, rfl, p, dx, fs, rfl, SR16 _ _ hpr, fl3, _, rfl, p, .ref t, kt.ka, kt.ks, .ref i, rows, rfl, pgE SR16, .inr ⟨t, path, i2, fx, rfl, S16 _ _ (S10 _ _ ht9), lpth, by rw [hpl]; exact hpath, by rw [hfl]; exact hfx, fun H18 y3 S18 hy3 => ?_⟩⟩
        have lp18 := (lp11.same S16).same S18
        obtain ⟨r3, g3, l3, sl3, w3, ob18⟩ := lp18.ob
        refine ⟨_, rfl, kd, _, rfl, DGet.k (k := .inr "rows") ob18, _, rfl, D, t, xs, rows, path, fx, kt, false, rfl, lp18.hD, lp18.rows, lpi.good, S18 _ _ (S16 _ _ (S10 _ _ ht9)), hAt, fun H19 y4 S19 hy4 => ?_⟩
        refine ⟨y3, y4, rfl, same_row gf fx5 (RowAt.mono (res_same.trans S19) hy3) hy4, fun H20 S20 => ⟨_, rfl, iteF ?_⟩⟩
        exact ⟨_, _, _, rfl, S10.trans (S16.trans (S18.trans (S19.trans S20)))⟩
    obtain ⟨v5, v8, v9, rfl, S10⟩ := q
    have SR10 := SR9.trans S10
    -- all rows
    refine ⟨_, rfl, p, dx, fs, rfl, SR10 _ _ hpr, fl2, p, kt.ka, kt.ks, .ref i, rows, rfl, pgE SR10, by have := lpi.l8; omega, fun H11 DR ys S11 nDR hDR hys => ?_⟩
    have lp11 := (lp9.same S10).same S11
    obtain ⟨r2, g2, l2, sl2, w2, ob11⟩ := lp11.ob
    refine ⟨_, rfl, kd, _, rfl, DGet.k (k := .inr "rows") ob11, .ref DR, .ref D, rfl, same_rows lpi.good (by have := lpi.l8; omega) hDR lp11.hD (hys.imp fun _ _ _ z => RowAt.mono res_same z) lp11.rows, fun H12 S12 => ⟨_, rfl, iteF ?_⟩⟩
    -- a path, drawn
    refine ⟨by show 1 ≤ sizeLine; decide, fun t0 nt0 => ?_⟩
    have S13 : Same H12 (upd H12 t0 (.tup [.int 0])) := Same.new nt0
    have ht0 : upd H12 t0 (.tup [.int 0]) t0 = some (.tup (([0] : List Int).map V.int)) := upd_same
    generalize upd H12 t0 (.tup [.int 0]) = H13 at S13 ht0 ⊢
    have S913 := S10.trans (S11.trans (S12.trans S13))
    have hb13 := hb9.same S913
    have hDu13 := S913 _ _ hDu9
    have hpau13 : PathsAt H13 PP pa := hpau9.imp fun _ _ _ e => S913 _ _ e
    have SR13 := SR9.trans S913
    have lpa : pa.length ≤ 14 := by rw [← hpau13.len]; exact lPP
    refine ⟨fun σ' H' => ∃ (t : Addr) (q : List Int) (v5 v8 v9 : Option V), σ' = [some (.ref a), some (.ref b), some (.ref kd), some (.ref p), some (.ref Du), v5, some (.ref t), none, v8, v9] ∧ Bs H13 H' b ∧ H' t = some (.tup (q.map V.int)) ∧ PathLike q ∧ q.length ≤ 20, ?_, ?_⟩
    · refine ⟨_, rfl, Du, _, rfl, .inl (SqL.of hDu13), _, _, rfl, rfl, _, rfl, ?_⟩
      refine ite2 (fun e => ?_) (fun e => ?_)
      · have e' : (0 : Int) < ((pa.map V.ref).length : Int) := of_decide_eq_true e
        refine ⟨_, rfl, _, rfl, _, rfl, Du, _, rfl, .inl (SqL.of hDu13), b, c, (pa.map V.ref).length, rfl, hb13, by rw [List.length_map]; omega, fun d H14 hd hb14 ho14 => ?_⟩
        rw [List.length_map] at hd e'
        have hd2 : d < pa.length := by omega
        have ht : pa[d]? = some pa[d] := List.getElem?_eq_getElem hd2
        generalize pa[d] = t at ht
        obtain ⟨q, hq, htq⟩ := hpau13.other ht
        have bs14 := ho14.bs
        obtain ⟨kvb, hkb⟩ := hb13.dk
        have up : ∀ {x : Addr} {o : HO}, H13 x = some o → (∀ kvs, o ≠ .dK kvs) → H14 x = some o := fun {x o} e n => bs14 _ _ e (fun z => by rw [z, hkb] at e; exact n _ (Option.some.inj e).symm)
        refine ⟨Du, _, (d : Int), .ref t, rfl, rfl, SqL.of (up hDu13 (by intro _ z; cases z)), atI_nat (by rw [List.getElem?_map, ht]; rfl), ?_⟩
        exact ⟨t, q, _, _, _, rfl, bs14, up htq (by intro _ z; cases z), (like q (List.mem_of_getElem? hq)).1, by have := (like q (List.mem_of_getElem? hq)).2; omega⟩
      · exact ⟨t0, [0], _, _, _, rfl, Bs.refl _ _, ht0, ⟨rfl, fun j hj => by rw [List.mem_singleton.mp hj]; omega⟩, by decide⟩
    rintro σ' H14 ⟨t, q, u5, u8, u9, rfl, bs14, ht, lq, q20⟩
    have SR14 : Same Hr H14 := fun x o e => bs14 _ _ (SR13 _ _ e) (fun z => by rw [z, rb] at e; cases e)
    obtain ⟨kvb, hkb⟩ := hb13.dk
    have up14 : ∀ {x : Addr} {o : HO}, H13 x = some o → (∀ kvs, o ≠ .dK kvs) → H14 x = some o := fun {x o} e n => bs14 _ _ e (fun z => by rw [z, hkb] at e; exact n _ (Option.some.inj e).symm)
    have hDu14 := up14 hDu13 (by intro _ z; cases z)
    have hpau14 : PathsAt H14 PP pa := hpau13.imp fun _ _ _ e => up14 e (by intro _ z; cases z)
    -- what is no path
    refine ⟨_, rfl, t, q, PP, rfl, ht, lq, q20, fun p hp => (like p hp).1, fun H15 Dw ws S15 nDw hDw hws => ?_⟩
    have SR15 := SR14.trans S15
    refine ⟨Dw, rfl, ⟨_, SqL.of hDw⟩, ?_⟩
    refine for_it (walk_list (K := K) (a := Dw) (xs := ws)) (fun j σ H' => ∃ v5 v7 v8 v9 : Option V, σ = [some (.ref a), some (.ref b), some (.ref kd), some (.ref p), some (.ref Du), v5, some (.ref t), v7, v8, v9] ∧ Same H15 H') ⟨_, _, _, _, rfl, Same.refl H15⟩ (fun j σ H' _ q => ?_) (fun j v σ H16 H17 hj q yy => ?_) (fun σ H16 q => ?_)
    · obtain ⟨_, _, _, _, _, S⟩ := q
      exact SqL.of (S _ _ hDw)
    · obtain ⟨v5, v7, v8, v9, rfl, S16⟩ := q
      obtain ⟨rfl, hv⟩ := yy
      refine ⟨_, rfl, _, rfl, p, v, kt.ka, kt.ks, .ref i, rows, rfl, pgE (SR15.trans S16), .inl ⟨by rw [hpl]; exact (hws v (List.mem_of_getElem? hv)).same (res_same.trans S16), fun H18 S18 => ⟨_, rfl, iteF ?_⟩⟩⟩
      exact ⟨_, _, _, _, rfl, S16.trans S18⟩
    obtain ⟨w5, w7, w8, w9, rfl, S16⟩ := q
    have SR16 := SR15.trans S16
    -- the list that is told is one's own
    refine ⟨_, rfl, p, dx, fs, rfl, SR16 _ _ hpr, fl1, p, kt.ka, kt.ks, .ref i, rows, rfl, pgE SR16, fun H17 D8 pa8 S17 nD8 hD8 hpa8 => ?_⟩
    rw [hpl] at hpa8
    refine ⟨Or.inl ⟨rfl, _, SqL.of hD8⟩, by show 1 ≤ sizeLine; decide, fun q9 nq9 => ?_⟩
    have S18 : Same H17 (upd H17 q9 (.tup [.int 9])) := Same.new nq9
    have hD8' := S18 _ _ hD8
    generalize upd H17 q9 (.tup [.int 9]) = H18 at S18 hD8' ⊢
    refine ⟨D8, _, _, rfl, rfl, hD8', by rw [List.length_map, ← hpa8.len, sizeLine_eq]; omega, ?_⟩
    have S19 : Same H16 (upd H18 D8 (.lst (pa8.map V.ref ++ [.ref q9]))) := fun x o e => by
      rw [upd_ne (ne_of_none e nD8)]
      exact S18 _ _ (S17 _ _ e)
    generalize upd H18 D8 (.lst (pa8.map V.ref ++ [.ref q9])) = H19 at S19 ⊢
    have SR19 := SR16.trans S19
    refine ⟨_, rfl, by show 1 ≤ sizeLine; decide, fun q10 nq10 => ?_⟩
    have S20 : Same H19 (upd H19 q10 (.tup [.int 9])) := Same.new nq10
    have hq10 : upd H19 q10 (.tup [.int 9]) q10 = some (.tup (([9] : List Int).map V.int)) := upd_same
    generalize upd H19 q10 (.tup [.int 9]) = H20 at S20 hq10 ⊢
    have no9 : ([9] : List Int) ∉ PP := fun hm => by
      obtain ⟨j, hj⟩ := List.getElem?_of_mem hm
      obtain ⟨x, _, q', e, ha⟩ := hat.right hj
      have e : ([9] : List Int) = q' := e
      subst e
      obtain ⟨r, hr, _⟩ := ha
      have h1 := (List.getElem?_eq_some_iff.mp hr).1
      have h2 := lpi.l8
      have h3 : (9 : Int).toNat = 9 := rfl
      omega
    refine ⟨p, .ref q10, kt.ka, kt.ks, .ref i, rows, rfl, pgE (SR19.trans S20), .inl ⟨by rw [hpl]; exact has_not hq10 (by decide) no9, fun H21 S21 => ⟨_, rfl, iteF ?_⟩⟩⟩
    have SR21 := (SR19.trans S20).trans S21
    have S1421 := S15.trans (S16.trans (S19.trans (S20.trans S21)))
    refine ⟨_, rfl, p, dx, fs, rfl, SR21 _ _ hpr, fl1, p, kt.ka, kt.ks, .ref i, rows, rfl, pgE SR21, fun H22 D9 pa9 S22 nD9 hD9 hpa9 => ?_⟩
    rw [hpl] at hpa9
    refine ⟨_, rfl, .ref D9, .ref Du, rfl, (same_paths hD9 (S22 _ _ (S1421 _ _ hDu14)) hpa9 (hpau14.imp fun _ _ _ e => S22 _ _ (S1421 _ _ e)) (by omega) fun p hp => by have := (like p hp).2; omega).le (by decide), fun H23 S23 => ?_⟩
    exact k H23
end
end OR

set_option Elab.async false
set_option linter.all false
set_option maxRecDepth 100000
set_option maxHeartbeats 0
namespace OR
open PySem PySem.Spec PyProof.Rows L2 TS2
/-! ### the head: facts by names, the run -/

abbrev sIP : Stmt := inClass (top 4) 0
def dIP : He.DefD := ⟨("InvalidProgram", some "__init__"), "__init__", "InvalidProgram.__init__", defArgs sIP, defBody sIP, defScope sIP, [], []⟩
abbrev sIA : Stmt := inClass (top 5) 0
def dIA : He.DefD := ⟨("InvalidArgument", some "__init__"), "__init__", "InvalidArgument.__init__", defArgs sIA, defBody sIA, defScope sIA, [], []⟩
def d_lists_of : He.DefD := ⟨("lists_of", none), "lists_of", "lists_of", defArgs s_lists_of, defBody s_lists_of, defScope s_lists_of, [], []⟩
def d_with_lists : He.DefD := ⟨("with_lists", none), "with_lists", "with_lists", defArgs s_with_lists, defBody s_with_lists, defScope s_with_lists, [], []⟩
def d_words_named : He.DefD := ⟨("words_named", none), "words_named", "words_named", defArgs s_words_named, defBody s_words_named, defScope s_words_named, [], []⟩
def d_copied : He.DefD := ⟨("copied", none), "copied", "copied", defArgs s_copied, defBody s_copied, defScope s_copied, [], []⟩
def d_is_word : He.DefD := ⟨("is_word", none), "is_word", "is_word", defArgs s_is_word, defBody s_is_word, defScope s_is_word, [], []⟩
def d_is_integer : He.DefD := ⟨("is_integer", none), "is_integer", "is_integer", defArgs s_is_integer, defBody s_is_integer, defScope s_is_integer, [], []⟩
def d_are_words : He.DefD := ⟨("are_words", none), "are_words", "are_words", defArgs s_are_words, defBody s_are_words, defScope s_are_words, [], []⟩
def d_RowCheck___init__ : He.DefD := ⟨("RowCheck", some "__init__"), "__init__", "RowCheck.__init__", defArgs s_RowCheck___init__, defBody s_RowCheck___init__, defScope s_RowCheck___init__, [], []⟩
def d_RowCheck_check_rows : He.DefD := ⟨("RowCheck", some "check_rows"), "check_rows", "RowCheck.check_rows", defArgs s_RowCheck_check_rows, defBody s_RowCheck_check_rows, defScope s_RowCheck_check_rows, [], []⟩
def d_RowCheck_check_list : He.DefD := ⟨("RowCheck", some "check_list"), "check_list", "RowCheck.check_list", defArgs s_RowCheck_check_list, defBody s_RowCheck_check_list, defScope s_RowCheck_check_list, [], []⟩
def d_RowCheck_has_form : He.DefD := ⟨("RowCheck", some "has_form"), "has_form", "RowCheck.has_form", defArgs s_RowCheck_has_form, defBody s_RowCheck_has_form, defScope s_RowCheck_has_form, [], []⟩
def d_RowCheck_fits : He.DefD := ⟨("RowCheck", some "fits"), "fits", "RowCheck.fits", defArgs s_RowCheck_fits, defBody s_RowCheck_fits, defScope s_RowCheck_fits, [], []⟩
def d_RowCheck_is_new : He.DefD := ⟨("RowCheck", some "is_new"), "is_new", "RowCheck.is_new", defArgs s_RowCheck_is_new, defBody s_RowCheck_is_new, defScope s_RowCheck_is_new, [], []⟩
def d_are_sides : He.DefD := ⟨("are_sides", none), "are_sides", "are_sides", defArgs s_are_sides, defBody s_are_sides, defScope s_are_sides, [], []⟩
def d_may_stand : He.DefD := ⟨("may_stand", none), "may_stand", "may_stand", defArgs s_may_stand, defBody s_may_stand, defScope s_may_stand, [], []⟩
def d_Plan___init__ : He.DefD := ⟨("Plan", some "__init__"), "__init__", "Plan.__init__", defArgs s_Plan___init__, defBody s_Plan___init__, defScope s_Plan___init__, [], []⟩
def d_Plan_lay_list : He.DefD := ⟨("Plan", some "lay_list"), "lay_list", "Plan.lay_list", defArgs s_Plan_lay_list, defBody s_Plan_lay_list, defScope s_Plan_lay_list, [], []⟩
def d_Plan_lay_row : He.DefD := ⟨("Plan", some "lay_row"), "lay_row", "Plan.lay_row", defArgs s_Plan_lay_row, defBody s_Plan_lay_row, defScope s_Plan_lay_row, [], []⟩
def d_size_of : He.DefD := ⟨("size_of", none), "size_of", "size_of", defArgs s_size_of, defBody s_size_of, defScope s_size_of, [], []⟩
def d_end_within : He.DefD := ⟨("end_within", none), "end_within", "end_within", defArgs s_end_within, defBody s_end_within, defScope s_end_within, [], []⟩
def d_Draft___init__ : He.DefD := ⟨("Draft", some "__init__"), "__init__", "Draft.__init__", defArgs s_Draft___init__, defBody s_Draft___init__, defScope s_Draft___init__, [], []⟩
def d_checked_table : He.DefD := ⟨("checked_table", none), "checked_table", "checked_table", defArgs s_checked_table, defBody s_checked_table, defScope s_checked_table, [], []⟩
def d_is_entry : He.DefD := ⟨("is_entry", none), "is_entry", "is_entry", defArgs s_is_entry, defBody s_is_entry, defScope s_is_entry, [], []⟩
def d_named_in : He.DefD := ⟨("named_in", none), "named_in", "named_in", defArgs s_named_in, defBody s_named_in, defScope s_named_in, [], []⟩
def d_check_sizes : He.DefD := ⟨("check_sizes", none), "check_sizes", "check_sizes", defArgs s_check_sizes, defBody s_check_sizes, defScope s_check_sizes, [], []⟩
def d_Program___init__ : He.DefD := ⟨("Program", some "__init__"), "__init__", "Program.__init__", defArgs s_Program___init__, defBody s_Program___init__, defScope s_Program___init__, [], []⟩
def d_Program_rows : He.DefD := ⟨("Program", some "rows"), "rows", "Program.rows", defArgs s_Program_rows, defBody s_Program_rows, defScope s_Program_rows, [], []⟩
def d_Program_paths : He.DefD := ⟨("Program", some "paths"), "paths", "Program.paths", defArgs s_Program_paths, defBody s_Program_paths, defScope s_Program_paths, [], []⟩
def d_Program_row_at : He.DefD := ⟨("Program", some "row_at"), "row_at", "Program.row_at", defArgs s_Program_row_at, defBody s_Program_row_at, defScope s_Program_row_at, [], []⟩
def d_Program_has_path : He.DefD := ⟨("Program", some "has_path"), "has_path", "Program.has_path", defArgs s_Program_has_path, defBody s_Program_has_path, defScope s_Program_has_path, [], []⟩
def d__law_bag : He.DefD := ⟨("_law_bag", none), "_law_bag", "_law_bag", defArgs s__law_bag, defBody s__law_bag, defScope s__law_bag, [], []⟩
def d__law_draw : He.DefD := ⟨("_law_draw", none), "_law_draw", "_law_draw", defArgs s__law_draw, defBody s__law_draw, defScope s__law_draw, [], []⟩
def d__law_one : He.DefD := ⟨("_law_one", none), "_law_one", "_law_one", defArgs s__law_one, defBody s__law_one, defScope s__law_one, [], []⟩
def d__law_words : He.DefD := ⟨("_law_words", none), "_law_words", "_law_words", defArgs s__law_words, defBody s__law_words, defScope s__law_words, [], []⟩
def d__law_kit : He.DefD := ⟨("_law_kit", none), "_law_kit", "_law_kit", defArgs s__law_kit, defBody s__law_kit, defScope s__law_kit, [], []⟩
def d__law_start_row : He.DefD := ⟨("_law_start_row", none), "_law_start_row", "_law_start_row", defArgs s__law_start_row, defBody s__law_start_row, defScope s__law_start_row, [], []⟩
def d__law_plain_row : He.DefD := ⟨("_law_plain_row", none), "_law_plain_row", "_law_plain_row", defArgs s__law_plain_row, defBody s__law_plain_row, defScope s__law_plain_row, [], []⟩
def d__law_great_row : He.DefD := ⟨("_law_great_row", none), "_law_great_row", "_law_great_row", defArgs s__law_great_row, defBody s__law_great_row, defScope s__law_great_row, [], []⟩
def d__law_list : He.DefD := ⟨("_law_list", none), "_law_list", "_law_list", defArgs s__law_list, defBody s__law_list, defScope s__law_list, [], []⟩
def d__law_plan : He.DefD := ⟨("_law_plan", none), "_law_plan", "_law_plan", defArgs s__law_plan, defBody s__law_plan, defScope s__law_plan, [], []⟩
def d__law_copy_part : He.DefD := ⟨("_law_copy_part", none), "_law_copy_part", "_law_copy_part", defArgs s__law_copy_part, defBody s__law_copy_part, defScope s__law_copy_part, [], []⟩
def d__law_copy_rows : He.DefD := ⟨("_law_copy_rows", none), "_law_copy_rows", "_law_copy_rows", defArgs s__law_copy_rows, defBody s__law_copy_rows, defScope s__law_copy_rows, [], []⟩
def d__law_program : He.DefD := ⟨("_law_program", none), "_law_program", "_law_program", defArgs s__law_program, defBody s__law_program, defScope s__law_program, [], []⟩
def d__law_same : He.DefD := ⟨("_law_same", none), "_law_same", "_law_same", defArgs s__law_same, defBody s__law_same, defScope s__law_same, [], []⟩
def d__law_lists : He.DefD := ⟨("_law_lists", none), "_law_lists", "_law_lists", defArgs s__law_lists, defBody s__law_lists, defScope s__law_lists, [], []⟩
def d__law_paths : He.DefD := ⟨("_law_paths", none), "_law_paths", "_law_paths", defArgs s__law_paths, defBody s__law_paths, defScope s__law_paths, [], []⟩
def d__law_at : He.DefD := ⟨("_law_at", none), "_law_at", "_law_at", defArgs s__law_at, defBody s__law_at, defScope s__law_at, [], []⟩
def d__law_refused : He.DefD := ⟨("_law_refused", none), "_law_refused", "_law_refused", defArgs s__law_refused, defBody s__law_refused, defScope s__law_refused, [], []⟩
def d__law_wrong : He.DefD := ⟨("_law_wrong", none), "_law_wrong", "_law_wrong", defArgs s__law_wrong, defBody s__law_wrong, defScope s__law_wrong, [], []⟩
def d_law : He.DefD := ⟨("law", none), "law", "law", defArgs s_law, defBody s_law, defScope s_law, [], []⟩
def fn : List He.DefD := ([dIP, dIA, d_lists_of, d_with_lists, d_words_named, d_copied, d_is_word, d_is_integer, d_are_words, d_RowCheck___init__, d_RowCheck_check_rows, d_RowCheck_check_list, d_RowCheck_has_form, d_RowCheck_fits, d_RowCheck_is_new, d_are_sides, d_may_stand, d_Plan___init__, d_Plan_lay_list, d_Plan_lay_row] : List He.DefD) ++ ([d_size_of, d_end_within, d_Draft___init__, d_checked_table, d_is_entry, d_named_in, d_check_sizes, d_Program___init__, d_Program_rows, d_Program_paths, d_Program_row_at, d_Program_has_path, d__law_bag, d__law_draw, d__law_one, d__law_words, d__law_kit, d__law_start_row, d__law_plain_row, d__law_great_row] : List He.DefD) ++ ([d__law_list, d__law_plan, d__law_copy_part, d__law_copy_rows, d__law_program, d__law_same, d__law_lists, d__law_paths, d__law_at, d__law_refused, d__law_wrong, d_law] : List He.DefD)
def fa : List He.Fa := ([.glo "InvalidProgram", .glo "InvalidArgument", .glo "RunError", .glo "InputError", .glo "OpenError", .glo "Program", .glo "Draft", .glo "RowCheck", .glo "Plan", .glo "FORMS", .glo "lists_of", .glo "with_lists", .glo "words_named", .glo "copied", .glo "is_word", .glo "is_integer", .glo "are_words", .glo "are_sides", .glo "may_stand", .glo "size_of"] : List He.Fa) ++ ([.glo "end_within", .glo "checked_table", .glo "is_entry", .glo "named_in", .glo "check_sizes", .glo "_law_bag", .glo "_law_draw", .glo "_law_one", .glo "_law_words", .glo "_law_kit", .glo "_law_start_row", .glo "_law_plain_row", .glo "_law_great_row", .glo "_law_list", .glo "_law_plan", .glo "_law_copy_part", .glo "_law_copy_rows", .glo "_law_program", .glo "_law_same", .glo "_law_lists"] : List He.Fa) ++ ([.glo "_law_paths", .glo "_law_at", .glo "_law_refused", .glo "_law_wrong", .glo "law", .free "isinstance", .free "str", .free "int", .free "bool", .free "tuple", .free "list", .free "dict", .free "len", .free "all", .free "zip", .free "enumerate", .free "range", .free "sorted", .free "set", .free "sum"] : List He.Fa) ++ ([.noat "InvalidProgram" "part", .noat "InvalidProgram" "path", .noat "InvalidArgument" "part", .int "THROUGH" (-1), .int "FINISH" (-2), .int "MOST_ASKS" (6), .int "MOST_ANSWERS" (4), .int "MOST_SIGNALS" (3), .int "MOST_ROOM" (3), .int "MOST_SIGNAL_WORDS" (3), .int "MOST_INPUTS" (3), .int "MOST_ROWS" (60), .int "MOST_LABELS" (6), .int "MOST_SLOTS" (4), .int "MOST_GATES" (8), .int "DEEPEST" (5), .int "MOST_IN_ROW" (3), .int "LONGEST_WORD" (8), .str "EDIT" "edit", .str "INPUT_SLOT" "in"] : List He.Fa) ++ ([.cls "RowCheck", .mkr "RowCheck", .noat "RowCheck" "ask_table", .noat "RowCheck" "signal_table", .noat "RowCheck" "with_edits", .noat "RowCheck" "seen_edits", .noat "RowCheck" "seen_gates", .cls "Plan", .mkr "Plan", .noat "Plan" "flat", .noat "Plan" "places", .noat "Plan" "behind", .noat "Plan" "entries", .noat "Plan" "sides", .noat "Plan" "starts", .noat "Plan" "numbers", .cls "Program", .mkr "Program", .noat "Program" "ask_table", .noat "Program" "signal_table"] : List He.Fa) ++ ([.noat "Program" "input_words", .noat "Program" "row_list", .noat "Program" "plan", .noat "Program" "name_table", .meth "RowCheck" "check_rows", .meth "RowCheck" "check_list", .meth "RowCheck" "has_form", .meth "RowCheck" "fits", .meth "RowCheck" "is_new", .meth "Plan" "lay_list", .meth "Plan" "lay_row", .meth "Program" "rows", .meth "Program" "paths", .meth "Program" "row_at", .meth "Program" "has_path"] : List He.Fa)
def ts : List He.Tab := [(fun K => He.ga K "FORMS", ["ask", "timer", "await", "first", "drop", "take", "note", "put", "if", "loop", "leave", "part", "both", "gate", "past", "edit", "end", "anew"])]
def tupV (K : PySem.W.Frag) (v : Value) (vs : List V) : Bool := match v with
  | .ref p => match K.lookup p with
    | some ⟨.type c, _, .seq its _, _⟩ => decide (c = "tuple") && (decide (its.size ≤ sizeLine) && He.relAll vs its.toList)
    | _ => false
  | _ => false
theorem tupV_ok {K : PySem.W.Frag} {v : Value} {vs : List V} (h : tupV K v vs = true) : ∃ p, v = .ref p ∧ ∀ H, SqT K H p vs := by
  unfold tupV at h
  cases v with
  | ref p =>
    refine ⟨p, rfl, fun H => ?_⟩
    cases q : K.lookup p with
    | none =>
      simp only [q] at h
      cases h
    | some o =>
      obtain ⟨oc, od, dt, osl⟩ := o
      simp only [q] at h
      cases oc with
      | type c =>
        cases dt with
        | seq its n =>
          obtain ⟨h1, h2⟩ := He.ba (show (decide (c = "tuple") && (decide (its.size ≤ sizeLine) && He.relAll vs its.toList)) = true from h)
          obtain ⟨h3, h4⟩ := He.ba h2
          exact .inr ⟨_, its, n, q, congrArg Value.type (of_decide_eq_true h1), rfl, of_decide_eq_true h3, He.relAll_ok h4⟩
        | _ => cases h
      | _ => cases dt <;> cases h
  | _ => cases h
def hasT (K : PySem.W.Frag) (d : Addr) (q : Str × List V) : Bool := match PySem.W.nsIn K d q.1 with
  | some (some v) => tupV K v q.2
  | _ => false
theorem hasT_ok {K : PySem.W.Frag} {d : Addr} {x : Str} {vs : List V} (h : hasT K d (x, vs) = true) : ∃ p, PySem.W.nsIn K d x = some (some (.ref p)) ∧ ∀ H, SqT K H p vs := by
  unfold hasT at h
  split at h
  · rename_i v e
    obtain ⟨p, rfl, q⟩ := tupV_ok h
    exact ⟨p, e, q⟩
  · cases h
def hasS (K : PySem.W.Frag) (d : Addr) (q : Str × Str) : Bool := match PySem.W.nsIn K d q.1 with
  | some (some (.str y _)) => decide (y = q.2)
  | _ => false
theorem hasS_ok {K : PySem.W.Frag} {d : Addr} {x z : Str} (h : hasS K d (x, z) = true) : ∃ u, PySem.W.nsIn K d x = some (some u) ∧ RelV (.str z) u := by
  unfold hasS at h
  split at h
  · rename_i y t e
    have := of_decide_eq_true h
    subst this
    exact ⟨_, e, ⟨_, rfl⟩⟩
  · cases h
def noK (K : PySem.W.Frag) (d : Addr) (x : Str) : Bool := He.eqO (PySem.W.nsIn K d x) (some none)

def xcB (K : PySem.W.Frag) (D : Addr) : Bool := He.eqO (PySem.W.findIn K (.ref D) "__class__") (some (some (.builtin "object.__class__"))) && (He.eqO (PySem.W.specialIn K (.builtin "object.__class__") "__get__") (some (some (.builtin "getset_descriptor.__get__"))) && (decide (PySem.W.takesIn K (.builtin "object.__class__") = some true) && decide (PySem.W.mroIn K D (.type "object") = some true)))
structure XcF (K : PySem.W.Frag) (D : Addr) : Prop where
  ha : PySem.W.findIn K (.ref D) "__class__" = some (some (.builtin "object.__class__"))
  hn : PySem.W.specialIn K (.builtin "object.__class__") "__get__" = some (some (.builtin "getset_descriptor.__get__"))
  ht : PySem.W.takesIn K (.builtin "object.__class__") = some true
  hm : PySem.W.mroIn K D (.type "object") = some true
theorem xcB_ok {K : PySem.W.Frag} {D : Addr} (h : xcB K D = true) : XcF K D := by
  obtain ⟨h1, h⟩ := He.ba h
  obtain ⟨h2, h⟩ := He.ba h
  obtain ⟨h3, h4⟩ := He.ba h
  exact ⟨He.eqO_ok h1, He.eqO_ok h2, of_decide_eq_true h3, of_decide_eq_true h4⟩
abbrev cDr (K : PySem.W.Frag) : Addr := He.ga K "Draft"
abbrev cFo (K : PySem.W.Frag) : Addr := He.ga K "FORMS"
/-- a keyword's default that is told -/
def kwB (K : PySem.W.Frag) (C : Str) : Bool := match K.lookup (He.fAd K (C, some "__init__")) with
  | some ⟨_, _, .func fd, _⟩ => (match fd.kwdefaults with
    | .ref D => He.eqO (PySem.W.nsIn K D "asks") (some (some .none))
    | _ => false)
  | _ => false
def drB (K : PySem.W.Frag) : Bool := PySem.W.readsIn K (cDr K) (.type "type") && (He.eqO (PySem.W.specialIn K (.ref (cDr K)) "__getattribute__") (some (some (.builtin "type.__getattribute__"))) &&
  (match PySem.W.findCls K (.ref (cDr K)) (.type "type") "__init__" with
    | some (.val v) => decide (v = .ref (He.fAd K ("Draft", some "__init__")))
    | _ => false))
theorem drB_ok {K : PySem.W.Frag} (h : drB K = true) : ClX.CRead K (cDr K) (.type "type") ∧ PySem.W.findCls K (.ref (cDr K)) (.type "type") "__init__" = some (.val (.ref (He.fAd K ("Draft", some "__init__")))) := by
  obtain ⟨h1, h⟩ := He.ba h
  obtain ⟨h2, h3⟩ := He.ba h
  refine ⟨⟨h1, He.eqO_ok h2⟩, ?_⟩
  split at h3
  · rename_i v e
    rw [e, of_decide_eq_true h3]
  · cases h3
def ex0 (K : PySem.W.Frag) : Bool := (ftab.all (fun e => hasT K (cFo K) (e.1, e.2.map V.str))) && ((He.errB K (cIP K)) && ((He.iniB K (cIP K)) && ((He.errB K (cIA K)) && ((He.iniB K (cIA K)) && ((xfB K (cIA K)) && ((xcB K (cIA K)) && ((decide (PySem.W.exmOne K (.ref (cIA K)) (.ref (cIA K)) = some true)) && ((decide (PySem.W.kitOne K (.ref (cIA K)) (.ref (cIP K)) = some false)) && (decide (PySem.W.kitOne K (.ref (cIA K)) (.ref (cRE K)) = some false))))))))))
def ex1 (K : PySem.W.Frag) : Bool := (decide (PySem.W.kitOne K (.ref (cIA K)) (.ref (cIE K)) = some true)) && ((decide (PySem.W.kitOne K (.ref (cIA K)) (.ref (cOE K)) = some true)) && ((drB K) && (kwB K "Program")))
def ex (K : PySem.W.Frag) : Bool := (ex0 K) && (ex1 K)
structure ExF (K : PySem.W.Frag) : Prop where
  forms : ∀ e ∈ ftab, ∃ p, PySem.W.nsIn K (cFo K) e.1 = some (some (.ref p)) ∧ ∀ H, SqT K H p (e.2.map V.str)
  errIP : ErrC K (cIP K)
  iniIP : He.iniB K (cIP K) = true
  errIA : ErrC K (cIA K)
  iniIA : He.iniB K (cIA K) = true
  xfA : XfC K (cIA K)
  xcA : XcF K (cIA K)
  eAA : PySem.W.exmOne K (.ref (cIA K)) (.ref (cIA K)) = some true
  kAP : PySem.W.kitOne K (.ref (cIA K)) (.ref (cIP K)) = some false
  kAR : PySem.W.kitOne K (.ref (cIA K)) (.ref (cRE K)) = some false
  kAI : PySem.W.kitOne K (.ref (cIA K)) (.ref (cIE K)) = some true
  kAO : PySem.W.kitOne K (.ref (cIA K)) (.ref (cOE K)) = some true
  dr : drB K = true
  kPr : kwB K "Program" = true
theorem ex_ok {K : PySem.W.Frag} (h : ex K = true) : ExF K := by
  obtain ⟨g0, h⟩ := He.ba h
  have g1 := h
  obtain ⟨h0, g0⟩ := He.ba g0
  obtain ⟨h1, g0⟩ := He.ba g0
  obtain ⟨h2, g0⟩ := He.ba g0
  obtain ⟨h3, g0⟩ := He.ba g0
  obtain ⟨h4, g0⟩ := He.ba g0
  obtain ⟨h5, g0⟩ := He.ba g0
  obtain ⟨h6, g0⟩ := He.ba g0
  obtain ⟨h7, g0⟩ := He.ba g0
  obtain ⟨h8, g0⟩ := He.ba g0
  have h9 := g0
  obtain ⟨h10, g1⟩ := He.ba g1
  obtain ⟨h11, g1⟩ := He.ba g1
  obtain ⟨h12, g1⟩ := He.ba g1
  have h13 := g1
  exact ⟨fun e he => hasT_ok (List.all_eq_true.mp h0 e he), He.errB_ok h1, h2, He.errB_ok h3, h4, xfB_ok h5, xcB_ok h6, of_decide_eq_true h7, of_decide_eq_true h8, of_decide_eq_true h9, of_decide_eq_true h10, of_decide_eq_true h11, h12, h13⟩

abbrev Row0 : PySem.W.OpenRow := PySem.W.OpenLaw.row PySem.Challenge.rw_openruns_k02_paths_of_rows
/-- the places of the heap that the facts read (found by dropping places, natively: Ev02.lean) -/
def asZ : List Addr := ([3, 31, 44, 63, 82, 94, 97, 123, 130, 137, 142, 147, 154, 159, 209, 218, 225, 254, 263, 270] : List Addr) ++ ([287, 298, 305, 310, 317, 416, 423, 430, 437, 442, 449, 456, 461, 466, 473, 480, 485, 490, 497, 502] : List Addr) ++ ([507, 519, 526, 547, 554, 561, 30, 43, 62, 81, 98, 99, 100, 101, 102, 103, 104, 105, 106, 107] : List Addr) ++ ([108, 109, 110, 111, 112, 113, 114, 116, 122, 129, 136, 141, 146, 153, 158, 208, 217, 224, 253, 262] : List Addr) ++ ([269, 286, 297, 304, 309, 316, 415, 422, 429, 436, 441, 448, 455, 460, 465, 472, 479, 484, 489, 496] : List Addr) ++ ([501, 506, 518, 525, 546, 553, 560, 60, 79, 173, 180, 187, 192, 199, 206, 237, 244, 251, 284, 333] : List Addr) ++ ([340, 368, 375, 392, 59, 78, 172, 179, 186, 191, 198, 205, 236, 243, 250, 283, 332, 326, 339, 367] : List Addr) ++ ([374, 391, 2] : List Addr)
def frZ (g : Addr → Option Obj) : PySem.W.Frag := He.frT g asZ
section
variable (fa : List He.Fa) (fn : List He.DefD) (ts : List He.Tab) (ex : PySem.W.Frag → Bool)
def obsZ (g : Addr → Option Obj) : He.AlX := (He.obsT fa fn ts (frZ g), ex (frZ g))
structure SaysZ (w : World) (K : PySem.W.Frag) : Prop where
  t : He.SaysT fa fn ts w K
  more : ex K = true
theorem saysZ_of {w : World} {h : Heap} (e : obsZ fa fn ts ex h.get? = He.valX fn ts w) : SaysZ fa fn ts ex w (frZ h.get?) := by
  have e1 : He.obsT fa fn ts (frZ h.get?) = He.valT fn ts w := congrArg (fun z : He.AlX => z.1) e
  have e2 : ex (frZ h.get?) = true := congrArg (fun z : He.AlX => z.2) e
  exact ⟨e1, e2⟩
def hookZ : PySem.W.Hook where
  α := He.AlX
  obs := fun s => obsZ fa fn ts ex s.heap.get?
  val := fun w => He.valX fn ts w
  says := fun w h => ∃ K : PySem.W.Frag, K.In h ∧ SaysZ fa fn ts ex w K
  of := fun _ _ e => ⟨_, He.frT_in, saysZ_of fa fn ts ex e⟩
  keeps := fun _ _ _ ⟨K, hK, c⟩ k => ⟨K, PySem.W.Frag.In.keeps hK k, c⟩
theorem obsZ_eq {g : Addr → Option Obj} {s : Shared} (h : ∀ a, g a = s.heap.get? a) : obsZ fa fn ts ex g = (hookZ fa fn ts ex).obs s := by
  have e : g = s.heap.get? := funext h
  rw [e] <;> rfl
end
abbrev hk : PySem.W.Hook := hookZ fa fn ts ex
def ob (s : PySem.W.SharedT) : He.AlX := obsZ fa fn ts ex (HandSHeadRun.getT s)
theorem ob_eq (s : PySem.W.SharedT) : ob s = hk.obs s.abs := obsZ_eq fa fn ts ex (HandSHeadRun.getT_eq s)

def loose : List Str := (["_wall", "OpenError", "InputError", "InvalidProgram", "InvalidArgument", "RunError", "FORMS", "EDIT", "INPUT_SLOT", "lists_of", "with_lists", "words_named", "copied", "LONGEST_WORD", "is_word", "is_integer", "are_words", "DEEPEST", "MOST_IN_ROW", "RowCheck"] : List Str) ++ (["are_sides", "may_stand", "THROUGH", "FINISH", "Plan", "size_of", "end_within", "MOST_ASKS", "MOST_ANSWERS", "MOST_SIGNALS", "MOST_ROOM", "MOST_SIGNAL_WORDS", "MOST_INPUTS", "MOST_ROWS", "MOST_LABELS", "MOST_SLOTS", "MOST_GATES", "Draft", "checked_table", "is_entry"] : List Str) ++ (["named_in", "check_sizes", "Program", "_law_bag", "_law_draw", "_law_one", "_law_words", "_law_kit", "_law_start_row", "_law_plain_row", "_law_great_row", "_law_list", "_law_plan", "_law_copy_part", "_law_copy_rows", "_law_program", "_law_same", "_law_lists", "_law_with", "_law_paths"] : List Str) ++ (["_law_at", "_law_replaced", "_law_in_loop", "_law_refused", "_law_wrong"] : List Str)
end OR

set_option Elab.async false
set_option linter.all false
set_option maxRecDepth 100000
set_option maxHeartbeats 0
namespace OR
open PySem PySem.Spec PyProof.Rows L2 TS2
theorem run_of {α β γ δ : Type} {o : Option α} {A : α → β} {B : α → γ} {C : α → δ} {a : β} {b : γ} {c : δ} (h1 : o.map A = some a) (h2 : o.map B = some b) (h3 : o.map C = some c) : o.map (fun s => (A s, B s, C s)) = some (a, b, c) := by
  cases o with
  | none => cases h1
  | some s =>
    cases h1
    cases h2
    cases h3
    rfl
theorem no_A (w : World) (os : OsState) : (HandSHeadRun.endF (HandSHeadRun.stepQ (HandSHeadRun.denQ HandSHeadRun.tabQ) Row0.prog (w.withFollow "special-get-raises" false)) 12000 Row0.prog (w.withFollow "special-get-raises" false) os).map (fun s => HandSHeadRun.looksF Row0.prog (PySem.W.boot_heap (w.withFollow "special-get-raises" false).params) s.abs) = some true := by
  kernel_rfl
theorem no_B (w : World) (os : OsState) : (HandSHeadRun.endF (HandSHeadRun.stepQ (HandSHeadRun.denQ HandSHeadRun.tabQ) Row0.prog (w.withFollow "special-get-raises" false)) 12000 Row0.prog (w.withFollow "special-get-raises" false) os).map (fun s => HandSHeadRun.seenQ (PySem.W.view Row0.prog [73]) loose (PySem.importedModules Row0.prog.main.body) (fun s => PySem.W.xlAt (PySem.W.view Row0.prog [73]) [] s && PySem.W.recOk Row0.toRowW.records s) s.abs) = some (PySem.W.openGood (PySem.W.view Row0.prog [73]) loose) := by
  kernel_rfl
theorem no_C (w : World) (os : OsState) : (HandSHeadRun.endF (HandSHeadRun.stepQ (HandSHeadRun.denQ HandSHeadRun.tabQ) Row0.prog (w.withFollow "special-get-raises" false)) 12000 Row0.prog (w.withFollow "special-get-raises" false) os).map (fun s => ob s) = some (hk.val (w.withFollow "special-get-raises" false)) := by
  kernel_rfl
theorem run_no (w : World) : HandSHeadRun.RunEq Row0 (PySem.W.view Row0.prog [73]) hk ob 12000 loose (w.withFollow "special-get-raises" false) := fun os => run_of (no_A w os) (no_B w os) (no_C w os)
theorem yes_A (w : World) (os : OsState) : (HandSHeadRun.endF (HandSHeadRun.stepQ (HandSHeadRun.denQ HandSHeadRun.tabQ) Row0.prog (w.withFollow "special-get-raises" true)) 12000 Row0.prog (w.withFollow "special-get-raises" true) os).map (fun s => HandSHeadRun.looksF Row0.prog (PySem.W.boot_heap (w.withFollow "special-get-raises" true).params) s.abs) = some true := by
  kernel_rfl
theorem yes_B (w : World) (os : OsState) : (HandSHeadRun.endF (HandSHeadRun.stepQ (HandSHeadRun.denQ HandSHeadRun.tabQ) Row0.prog (w.withFollow "special-get-raises" true)) 12000 Row0.prog (w.withFollow "special-get-raises" true) os).map (fun s => HandSHeadRun.seenQ (PySem.W.view Row0.prog [73]) loose (PySem.importedModules Row0.prog.main.body) (fun s => PySem.W.xlAt (PySem.W.view Row0.prog [73]) [] s && PySem.W.recOk Row0.toRowW.records s) s.abs) = some (PySem.W.openGood (PySem.W.view Row0.prog [73]) loose) := by
  kernel_rfl
theorem yes_C (w : World) (os : OsState) : (HandSHeadRun.endF (HandSHeadRun.stepQ (HandSHeadRun.denQ HandSHeadRun.tabQ) Row0.prog (w.withFollow "special-get-raises" true)) 12000 Row0.prog (w.withFollow "special-get-raises" true) os).map (fun s => ob s) = some (hk.val (w.withFollow "special-get-raises" true)) := by
  kernel_rfl
theorem run_yes (w : World) : HandSHeadRun.RunEq Row0 (PySem.W.view Row0.prog [73]) hk ob 12000 loose (w.withFollow "special-get-raises" true) := fun os => run_of (yes_A w os) (yes_B w os) (yes_C w os)
theorem run (w : World) : HandSHeadRun.RunEq Row0 (PySem.W.view Row0.prog [73]) hk ob 12000 loose w := PySem.W.byRow2 "special-get-raises" (P := fun w => HandSHeadRun.RunEq Row0 (PySem.W.view Row0.prog [73]) hk ob 12000 loose w) run_no run_yes w
end OR

set_option Elab.async false
set_option linter.all false
set_option maxRecDepth 100000
set_option maxHeartbeats 0
namespace OR
open PySem PySem.Spec PyProof.Rows L2 TS2
section
variable {P : Program} {w : World} {K : PySem.W.Frag} {h base : Heap} {mg : Str → Option Value}
theorem names (X : K.In h) (G : h.Ns mainGlobals mg) (e : ExF K) (c0 : He.SaysT fa fn ts w K) : Tx w K mg :=
  have c := c0.d
  { b_isinstance := He.free_ok X G (c.fact 45 (f := .free "isinstance") rfl)
    b_str := He.free_ok X G (c.fact 46 (f := .free "str") rfl)
    b_int := He.free_ok X G (c.fact 47 (f := .free "int") rfl)
    b_bool := He.free_ok X G (c.fact 48 (f := .free "bool") rfl)
    b_tuple := He.free_ok X G (c.fact 49 (f := .free "tuple") rfl)
    b_list := He.free_ok X G (c.fact 50 (f := .free "list") rfl)
    b_dict := He.free_ok X G (c.fact 51 (f := .free "dict") rfl)
    b_len := He.free_ok X G (c.fact 52 (f := .free "len") rfl)
    b_all := He.free_ok X G (c.fact 53 (f := .free "all") rfl)
    b_zip := He.free_ok X G (c.fact 54 (f := .free "zip") rfl)
    b_enumerate := He.free_ok X G (c.fact 55 (f := .free "enumerate") rfl)
    b_range := He.free_ok X G (c.fact 56 (f := .free "range") rfl)
    b_sorted := He.free_ok X G (c.fact 57 (f := .free "sorted") rfl)
    b_set := He.free_ok X G (c.fact 58 (f := .free "set") rfl)
    b_sum := He.free_ok X G (c.fact 59 (f := .free "sum") rfl)
    m_THROUGH := He.int_ok X G (c.fact 63 (f := .int "THROUGH" (-1)) rfl)
    m_FINISH := He.int_ok X G (c.fact 64 (f := .int "FINISH" (-2)) rfl)
    m_MOST_ASKS := He.int_ok X G (c.fact 65 (f := .int "MOST_ASKS" (6)) rfl)
    m_MOST_ANSWERS := He.int_ok X G (c.fact 66 (f := .int "MOST_ANSWERS" (4)) rfl)
    m_MOST_SIGNALS := He.int_ok X G (c.fact 67 (f := .int "MOST_SIGNALS" (3)) rfl)
    m_MOST_ROOM := He.int_ok X G (c.fact 68 (f := .int "MOST_ROOM" (3)) rfl)
    m_MOST_SIGNAL_WORDS := He.int_ok X G (c.fact 69 (f := .int "MOST_SIGNAL_WORDS" (3)) rfl)
    m_MOST_INPUTS := He.int_ok X G (c.fact 70 (f := .int "MOST_INPUTS" (3)) rfl)
    m_MOST_ROWS := He.int_ok X G (c.fact 71 (f := .int "MOST_ROWS" (60)) rfl)
    m_MOST_LABELS := He.int_ok X G (c.fact 72 (f := .int "MOST_LABELS" (6)) rfl)
    m_MOST_SLOTS := He.int_ok X G (c.fact 73 (f := .int "MOST_SLOTS" (4)) rfl)
    m_MOST_GATES := He.int_ok X G (c.fact 74 (f := .int "MOST_GATES" (8)) rfl)
    m_DEEPEST := He.int_ok X G (c.fact 75 (f := .int "DEEPEST" (5)) rfl)
    m_MOST_IN_ROW := He.int_ok X G (c.fact 76 (f := .int "MOST_IN_ROW" (3)) rfl)
    m_LONGEST_WORD := He.int_ok X G (c.fact 77 (f := .int "LONGEST_WORD" (8)) rfl)
    m_EDIT := He.str_ok X G (c.fact 78 (f := .str "EDIT" "edit") rfl)
    m_INPUT_SLOT := He.str_ok X G (c.fact 79 (f := .str "INPUT_SLOT" "in") rfl)
    m_FORMS := He.glo_ok X G (c.fact 9 (f := .glo "FORMS") rfl)
    D_FORMS := c0.tab 0 (t := (fun K => He.ga K "FORMS", ["ask", "timer", "await", "first", "drop", "take", "note", "put", "if", "loop", "leave", "part", "both", "gate", "past", "edit", "end", "anew"])) rfl
    forms := e.forms
    m_Program := He.glo_ok X G (c.fact 5 (f := .glo "Program") rfl)
    c_RowCheck := He.cls_ok (c.fact 80 (f := .cls "RowCheck") rfl)
    n_RowCheck_ask_table := He.noat_ok (c.fact 82 (f := .noat "RowCheck" "ask_table") rfl)
    n_RowCheck_signal_table := He.noat_ok (c.fact 83 (f := .noat "RowCheck" "signal_table") rfl)
    n_RowCheck_with_edits := He.noat_ok (c.fact 84 (f := .noat "RowCheck" "with_edits") rfl)
    n_RowCheck_seen_edits := He.noat_ok (c.fact 85 (f := .noat "RowCheck" "seen_edits") rfl)
    n_RowCheck_seen_gates := He.noat_ok (c.fact 86 (f := .noat "RowCheck" "seen_gates") rfl)
    c_Plan := He.cls_ok (c.fact 87 (f := .cls "Plan") rfl)
    n_Plan_flat := He.noat_ok (c.fact 89 (f := .noat "Plan" "flat") rfl)
    n_Plan_places := He.noat_ok (c.fact 90 (f := .noat "Plan" "places") rfl)
    n_Plan_behind := He.noat_ok (c.fact 91 (f := .noat "Plan" "behind") rfl)
    n_Plan_entries := He.noat_ok (c.fact 92 (f := .noat "Plan" "entries") rfl)
    n_Plan_sides := He.noat_ok (c.fact 93 (f := .noat "Plan" "sides") rfl)
    n_Plan_starts := He.noat_ok (c.fact 94 (f := .noat "Plan" "starts") rfl)
    n_Plan_numbers := He.noat_ok (c.fact 95 (f := .noat "Plan" "numbers") rfl)
    c_Program := He.cls_ok (c.fact 96 (f := .cls "Program") rfl)
    n_Program_ask_table := He.noat_ok (c.fact 98 (f := .noat "Program" "ask_table") rfl)
    n_Program_signal_table := He.noat_ok (c.fact 99 (f := .noat "Program" "signal_table") rfl)
    n_Program_input_words := He.noat_ok (c.fact 100 (f := .noat "Program" "input_words") rfl)
    n_Program_row_list := He.noat_ok (c.fact 101 (f := .noat "Program" "row_list") rfl)
    n_Program_plan := He.noat_ok (c.fact 102 (f := .noat "Program" "plan") rfl)
    n_Program_name_table := He.noat_ok (c.fact 103 (f := .noat "Program" "name_table") rfl) }
theorem def_IP (X : K.In h) (G : h.Ns mainGlobals mg) (e : ExF K) (c : He.SaysD fa fn K) : ErrDef P w K mg base CX0 1 "InvalidProgram" (cIP K) ["self", "part", "path"] ["part", "path"] := by
  obtain ⟨fd, F⟩ := c.def_ 0 (d := dIP) rfl
  obtain ⟨i1, i2⟩ := He.ba e.iniIP
  refine ⟨⟨_, fd, He.glo_ok X G (c.fact 0 (f := .glo "InvalidProgram") rfl), e.errIP, He.eqO_ok i1, of_decide_eq_true i2, F.bindsN (ps := ["self", "part", "path"]) (fun _ _ _ _ _ _ us hl => match us, hl with | [_, _, _], _ => rfl), fun s u ws _ hl => ?_, ?_, by decide, rfl⟩⟩
  · obtain ⟨oc, od, dV, kV, doc, pm, an, cdv, ct, osl, rfl, _, _, hD, _⟩ := F.ex
    rcases hD with ⟨_, rfl⟩ | ⟨z, _⟩
    · match ws, hl with
      | [_, _], _ => exact .of_eq rfl
    · exact absurd rfl z
  · exact ok_ini2 F ⟨rfl, rfl, rfl, by decide +kernel, rfl, by decide +kernel, by decide +kernel⟩ rfl rfl rfl (by decide) (by decide) (by decide) (by decide) e.errIP (He.noat_ok (c.fact 60 (f := .noat "InvalidProgram" "part") rfl)) (He.noat_ok (c.fact 61 (f := .noat "InvalidProgram" "path") rfl))
theorem def_IA (X : K.In h) (G : h.Ns mainGlobals mg) (e : ExF K) (c : He.SaysD fa fn K) : ErrDef P w K mg base CX0 1 "InvalidArgument" (cIA K) ["self", "part"] ["part"] := by
  obtain ⟨fd, F⟩ := c.def_ 1 (d := dIA) rfl
  obtain ⟨i1, i2⟩ := He.ba e.iniIA
  refine ⟨⟨_, fd, He.glo_ok X G (c.fact 1 (f := .glo "InvalidArgument") rfl), e.errIA, He.eqO_ok i1, of_decide_eq_true i2, F.bindsN (ps := ["self", "part"]) (fun _ _ _ _ _ _ us hl => match us, hl with | [_, _], _ => rfl), fun s u ws _ hl => ?_, ?_, by decide, rfl⟩⟩
  · obtain ⟨oc, od, dV, kV, doc, pm, an, cdv, ct, osl, rfl, _, _, hD, _⟩ := F.ex
    rcases hD with ⟨_, rfl⟩ | ⟨z, _⟩
    · match ws, hl with
      | [_], _ => exact .of_eq rfl
    · exact absurd rfl z
  · exact ok_ini1 F ⟨rfl, rfl, rfl, by decide +kernel, rfl, by decide +kernel, by decide +kernel⟩ rfl rfl (by decide) (by decide) e.errIA (He.noat_ok (c.fact 62 (f := .noat "InvalidArgument" "part") rfl))
theorem kw_one {v : Value} (k : (match v with
    | .ref D => He.eqO (PySem.W.nsIn K D "asks") (some (some .none))
    | _ => false) = true) : ∃ D, v = .ref D ∧ PySem.W.nsIn K D "asks" = some (some .none) := by
  cases v with
  | ref D => exact ⟨D, rfl, He.eqO_ok k⟩
  | _ => cases k
theorem kw_Program {f : Addr} {fd : FuncData} (k : kwB K "Program" = true) (F : FunD K "__init__" "Program.__init__" (defArgs s_Program___init__) (defBody s_Program___init__) (defScope s_Program___init__) [] [] f fd) (hf : f = He.fAd K ("Program", some "__init__")) :
    FunD K "__init__" "Program.__init__" (defArgs s_Program___init__) (defBody s_Program___init__) (defScope s_Program___init__) [] [("asks", .non)] f fd ∧ KBn K fd p_Program___init__ 2 kw3 (fun vs zs => vs ++ zs) (fun vs zs => vs ++ zs) := by
  have F2 : FunD K "__init__" "Program.__init__" (defArgs s_Program___init__) (defBody s_Program___init__) (defScope s_Program___init__) [] [("asks", .non)] f fd := by
    obtain ⟨oc, od, dV, kV, doc, pm, an, cdv, ct, osl, rfl, lk, hcd, hD, _⟩ := F.ex
    subst hf
    unfold kwB at k
    rw [lk] at k
    obtain ⟨D, rfl, k3⟩ := kw_one k
    refine ⟨⟨oc, od, dV, .ref D, doc, pm, an, cdv, ct, osl, rfl, lk, hcd, hD, .inr ⟨D, rfl, fun q hq => ?_⟩⟩, F.kp⟩
    rw [List.mem_singleton.mp hq]
    exact ⟨_, k3, rfl⟩
  obtain ⟨mv, b⟩ := F2.kbinds0 (ps := p_Program___init__) 2 kw3 [] (fun vs _ zs => vs ++ zs) (by simp) (by simp) (fun r1 _ r3 => r1.append r3) (fun D doc pm an cdv ct us mv ws h1 h2 h3 => match us, h1, mv, h2, ws, h3 with
    | [_, _], _, [], _, [_, _, _], _ => rfl)
  exact ⟨F2, b⟩
theorem fnok_up {CX : CXT} {k k' : Nat} {f : Addr} {fd : FuncData} {ps : List Str} {sp : Sp} (h : k ≤ k') (F : FnOk P w K mg base CX k f fd ps sp) : FnOk P w K mg base CX k' f fd ps sp := ⟨F.len, fun A outer s H args us vs Q E hr => F.run A outer s H args us vs Q E (hr.mono h)⟩
theorem fnok_some {CX : CXT} {k n : Nat} {f : Addr} {fd : FuncData} {ps : List Str} {sp : Nat → Sp} (F : ∀ e, e < n → FnOk P w K mg base CX k f fd ps (sp e)) : FnOk P w K mg base CX k f fd ps (fun vs H Q E => ∃ e, e < n ∧ sp e vs H Q E) :=
  ⟨fun vs H Q E ⟨e, he, h⟩ => (F e he).len vs H Q E h, fun A outer s H args us vs Q E hr e0 b r ⟨e, he, h⟩ => (F e he).run A outer s H args us vs Q E hr e0 b r h⟩
theorem fnok_any {CX : CXT} {k : Nat} {f : Addr} {fd : FuncData} {ps : List Str} {sp : Nat → Sp} (F : ∀ e, FnOk P w K mg base CX k f fd ps (sp e)) : FnOk P w K mg base CX k f fd ps (fun vs H Q E => ∃ e, sp e vs H Q E) :=
  ⟨fun vs H Q E ⟨e, h⟩ => (F e).len vs H Q E h, fun A outer s H args us vs Q E hr e0 b r ⟨e, h⟩ => (F e).run A outer s H args us vs Q E hr e0 b r h⟩
theorem facts (X : K.In h) (G : h.Ns mainGlobals mg) {f : Addr} (hfa : mg ("law" : Str) = some (.ref f)) (ee : ex K = true) (c0 : He.SaysT fa fn ts w K) :
    ∃ fd : FuncData, (∀ (s : Shared) (v : Value), BindsTo s fd ⟨[v], []⟩ [("_law_script", v)]) ∧ ∀ base : Heap, K.In base → base.Ns mainGlobals mg → FnOk P w K mg base CX0 34 f fd ["_law_script"] (spLaw K) := by
  have e := ex_ok ee
  have T := names X G e c0
  have c := c0.d
  obtain ⟨fd_lists_of, Fd_lists_of⟩ := c.def_ 2 (d := d_lists_of) rfl
  obtain ⟨fd_with_lists, Fd_with_lists⟩ := c.def_ 3 (d := d_with_lists) rfl
  obtain ⟨fd_words_named, Fd_words_named⟩ := c.def_ 4 (d := d_words_named) rfl
  obtain ⟨fd_copied, Fd_copied⟩ := c.def_ 5 (d := d_copied) rfl
  obtain ⟨fd_is_word, Fd_is_word⟩ := c.def_ 6 (d := d_is_word) rfl
  obtain ⟨fd_is_integer, Fd_is_integer⟩ := c.def_ 7 (d := d_is_integer) rfl
  obtain ⟨fd_are_words, Fd_are_words⟩ := c.def_ 8 (d := d_are_words) rfl
  obtain ⟨fd_RowCheck___init__, Fd_RowCheck___init__⟩ := c.def_ 9 (d := d_RowCheck___init__) rfl
  obtain ⟨fd_RowCheck_check_rows, Fd_RowCheck_check_rows⟩ := c.def_ 10 (d := d_RowCheck_check_rows) rfl
  obtain ⟨fd_RowCheck_check_list, Fd_RowCheck_check_list⟩ := c.def_ 11 (d := d_RowCheck_check_list) rfl
  obtain ⟨fd_RowCheck_has_form, Fd_RowCheck_has_form⟩ := c.def_ 12 (d := d_RowCheck_has_form) rfl
  obtain ⟨fd_RowCheck_fits, Fd_RowCheck_fits⟩ := c.def_ 13 (d := d_RowCheck_fits) rfl
  obtain ⟨fd_RowCheck_is_new, Fd_RowCheck_is_new⟩ := c.def_ 14 (d := d_RowCheck_is_new) rfl
  obtain ⟨fd_are_sides, Fd_are_sides⟩ := c.def_ 15 (d := d_are_sides) rfl
  obtain ⟨fd_may_stand, Fd_may_stand⟩ := c.def_ 16 (d := d_may_stand) rfl
  obtain ⟨fd_Plan___init__, Fd_Plan___init__⟩ := c.def_ 17 (d := d_Plan___init__) rfl
  obtain ⟨fd_Plan_lay_list, Fd_Plan_lay_list⟩ := c.def_ 18 (d := d_Plan_lay_list) rfl
  obtain ⟨fd_Plan_lay_row, Fd_Plan_lay_row⟩ := c.def_ 19 (d := d_Plan_lay_row) rfl
  obtain ⟨fd_size_of, Fd_size_of⟩ := c.def_ 20 (d := d_size_of) rfl
  obtain ⟨fd_end_within, Fd_end_within⟩ := c.def_ 21 (d := d_end_within) rfl
  obtain ⟨fd_Draft___init__, Fd_Draft___init__⟩ := c.def_ 22 (d := d_Draft___init__) rfl
  obtain ⟨fd_checked_table, Fd_checked_table⟩ := c.def_ 23 (d := d_checked_table) rfl
  obtain ⟨fd_is_entry, Fd_is_entry⟩ := c.def_ 24 (d := d_is_entry) rfl
  obtain ⟨fd_named_in, Fd_named_in⟩ := c.def_ 25 (d := d_named_in) rfl
  obtain ⟨fd_check_sizes, Fd_check_sizes⟩ := c.def_ 26 (d := d_check_sizes) rfl
  obtain ⟨fd_Program___init__, Fd_Program___init__⟩ := c.def_ 27 (d := d_Program___init__) rfl
  obtain ⟨fd_Program_rows, Fd_Program_rows⟩ := c.def_ 28 (d := d_Program_rows) rfl
  obtain ⟨fd_Program_paths, Fd_Program_paths⟩ := c.def_ 29 (d := d_Program_paths) rfl
  obtain ⟨fd_Program_row_at, Fd_Program_row_at⟩ := c.def_ 30 (d := d_Program_row_at) rfl
  obtain ⟨fd_Program_has_path, Fd_Program_has_path⟩ := c.def_ 31 (d := d_Program_has_path) rfl
  obtain ⟨fd__law_bag, Fd__law_bag⟩ := c.def_ 32 (d := d__law_bag) rfl
  obtain ⟨fd__law_draw, Fd__law_draw⟩ := c.def_ 33 (d := d__law_draw) rfl
  obtain ⟨fd__law_one, Fd__law_one⟩ := c.def_ 34 (d := d__law_one) rfl
  obtain ⟨fd__law_words, Fd__law_words⟩ := c.def_ 35 (d := d__law_words) rfl
  obtain ⟨fd__law_kit, Fd__law_kit⟩ := c.def_ 36 (d := d__law_kit) rfl
  obtain ⟨fd__law_start_row, Fd__law_start_row⟩ := c.def_ 37 (d := d__law_start_row) rfl
  obtain ⟨fd__law_plain_row, Fd__law_plain_row⟩ := c.def_ 38 (d := d__law_plain_row) rfl
  obtain ⟨fd__law_great_row, Fd__law_great_row⟩ := c.def_ 39 (d := d__law_great_row) rfl
  obtain ⟨fd__law_list, Fd__law_list⟩ := c.def_ 40 (d := d__law_list) rfl
  obtain ⟨fd__law_plan, Fd__law_plan⟩ := c.def_ 41 (d := d__law_plan) rfl
  obtain ⟨fd__law_copy_part, Fd__law_copy_part⟩ := c.def_ 42 (d := d__law_copy_part) rfl
  obtain ⟨fd__law_copy_rows, Fd__law_copy_rows⟩ := c.def_ 43 (d := d__law_copy_rows) rfl
  obtain ⟨fd__law_program, Fd__law_program⟩ := c.def_ 44 (d := d__law_program) rfl
  obtain ⟨fd__law_same, Fd__law_same⟩ := c.def_ 45 (d := d__law_same) rfl
  obtain ⟨fd__law_lists, Fd__law_lists⟩ := c.def_ 46 (d := d__law_lists) rfl
  obtain ⟨fd__law_paths, Fd__law_paths⟩ := c.def_ 47 (d := d__law_paths) rfl
  obtain ⟨fd__law_at, Fd__law_at⟩ := c.def_ 48 (d := d__law_at) rfl
  obtain ⟨fd__law_refused, Fd__law_refused⟩ := c.def_ 49 (d := d__law_refused) rfl
  obtain ⟨fd__law_wrong, Fd__law_wrong⟩ := c.def_ 50 (d := d__law_wrong) rfl
  obtain ⟨fd_law, Fd_law⟩ := c.def_ 51 (d := d_law) rfl
  have z := hfa.symm.trans (He.glo_ok X G (c.fact 44 (f := .glo "law") rfl))
  cases z
  have b := FunD.bindsA (ps := ["_law_script"]) Fd_law fun _ _ _ _ _ _ us hl => match us, hl with | [_], _ => rfl
  refine ⟨fd_law, fun s v => b s [v] rfl, fun base _ _ => ?_⟩
  have IP := def_IP (P := P) (w := w) (base := base) X G e c
  have IA := def_IA (P := P) (w := w) (base := base) X G e c
  have G_is_word : Def P w K mg base CX0 1 "is_word" p_is_word (spIsWord K) := ⟨⟨_, fd_is_word, He.glo_ok X G (c.fact 14 (f := .glo "is_word") rfl), Fd_is_word.kp, Fd_is_word.bindsN (ps := p_is_word) (fun _ _ _ _ _ _ us hl => match us, hl with | [_], _ => rfl), ok_is_word Fd_is_word T⟩⟩
  have G_is_integer : Def P w K mg base CX0 1 "is_integer" p_is_integer spIsInt := ⟨⟨_, fd_is_integer, He.glo_ok X G (c.fact 15 (f := .glo "is_integer") rfl), Fd_is_integer.kp, Fd_is_integer.bindsN (ps := p_is_integer) (fun _ _ _ _ _ _ us hl => match us, hl with | [_], _ => rfl), ok_is_integer Fd_is_integer T⟩⟩
  have G_are_words : Def P w K mg base CX0 2 "are_words" p_are_words (spAreWords K) := ⟨⟨_, fd_are_words, He.glo_ok X G (c.fact 16 (f := .glo "are_words") rfl), Fd_are_words.kp, Fd_are_words.bindsN (ps := p_are_words) (fun _ _ _ _ _ _ us hl => match us, hl with | [_, _], _ => rfl), ok_are_words Fd_are_words T G_is_word⟩⟩
  have G_lists_of : Def P w K mg base CX0 1 "lists_of" p_lists_of (spListsOf K) := ⟨⟨_, fd_lists_of, He.glo_ok X G (c.fact 10 (f := .glo "lists_of") rfl), Fd_lists_of.kp, Fd_lists_of.bindsN (ps := p_lists_of) (fun _ _ _ _ _ _ us hl => match us, hl with | [_], _ => rfl), ok_lists_of Fd_lists_of T⟩⟩
  have G_words_named : Def P w K mg base CX0 1 "words_named" p_words_named (spNamed K) := ⟨⟨_, fd_words_named, He.glo_ok X G (c.fact 12 (f := .glo "words_named") rfl), Fd_words_named.kp, Fd_words_named.bindsN (ps := p_words_named) (fun _ _ _ _ _ _ us hl => match us, hl with | [_, _], _ => rfl), ok_words_named Fd_words_named T⟩⟩
  have G_with_lists : Def P w K mg base CX0 1 "with_lists" p_with_lists (spWith K) := ⟨⟨_, fd_with_lists, He.glo_ok X G (c.fact 11 (f := .glo "with_lists") rfl), Fd_with_lists.kp, Fd_with_lists.bindsN (ps := p_with_lists) (fun _ _ _ _ _ _ us hl => match us, hl with | [_, _], _ => rfl), ok_with_lists Fd_with_lists T⟩⟩
  have C0 : Def P w K mg base CX0 1 "copied" p_copied (spCopied K 0) := ⟨⟨_, fd_copied, He.glo_ok X G (c.fact 13 (f := .glo "copied") rfl), Fd_copied.kp, Fd_copied.bindsN (ps := p_copied) (fun _ _ _ _ _ _ us hl => match us, hl with | [_], _ => rfl), ⟨fun _ _ _ _ h => h.elim, fun _ _ _ _ _ _ _ _ _ _ _ _ _ h => h.elim⟩⟩⟩
  have C1 : Def P w K mg base CX0 2 "copied" p_copied (spCopied K 1) := ⟨⟨_, fd_copied, He.glo_ok X G (c.fact 13 (f := .glo "copied") rfl), Fd_copied.kp, Fd_copied.bindsN (ps := p_copied) (fun _ _ _ _ _ _ us hl => match us, hl with | [_], _ => rfl), ok_copied Fd_copied T (by decide) G_lists_of G_with_lists C0⟩⟩
  have C2 : Def P w K mg base CX0 3 "copied" p_copied (spCopied K 2) := ⟨⟨_, fd_copied, He.glo_ok X G (c.fact 13 (f := .glo "copied") rfl), Fd_copied.kp, Fd_copied.bindsN (ps := p_copied) (fun _ _ _ _ _ _ us hl => match us, hl with | [_], _ => rfl), ok_copied Fd_copied T (by decide) G_lists_of G_with_lists C1⟩⟩
  have C3 : Def P w K mg base CX0 4 "copied" p_copied (spCopied K 3) := ⟨⟨_, fd_copied, He.glo_ok X G (c.fact 13 (f := .glo "copied") rfl), Fd_copied.kp, Fd_copied.bindsN (ps := p_copied) (fun _ _ _ _ _ _ us hl => match us, hl with | [_], _ => rfl), ok_copied Fd_copied T (by decide) G_lists_of G_with_lists C2⟩⟩
  have C4 : Def P w K mg base CX0 5 "copied" p_copied (spCopied K 4) := ⟨⟨_, fd_copied, He.glo_ok X G (c.fact 13 (f := .glo "copied") rfl), Fd_copied.kp, Fd_copied.bindsN (ps := p_copied) (fun _ _ _ _ _ _ us hl => match us, hl with | [_], _ => rfl), ok_copied Fd_copied T (by decide) G_lists_of G_with_lists C3⟩⟩
  have C5 : Def P w K mg base CX0 6 "copied" p_copied (spCopied K 5) := ⟨⟨_, fd_copied, He.glo_ok X G (c.fact 13 (f := .glo "copied") rfl), Fd_copied.kp, Fd_copied.bindsN (ps := p_copied) (fun _ _ _ _ _ _ us hl => match us, hl with | [_], _ => rfl), ok_copied Fd_copied T (by decide) G_lists_of G_with_lists C4⟩⟩
  have C6 : Def P w K mg base CX0 7 "copied" p_copied (spCopied K 6) := ⟨⟨_, fd_copied, He.glo_ok X G (c.fact 13 (f := .glo "copied") rfl), Fd_copied.kp, Fd_copied.bindsN (ps := p_copied) (fun _ _ _ _ _ _ us hl => match us, hl with | [_], _ => rfl), ok_copied Fd_copied T (by decide) G_lists_of G_with_lists C5⟩⟩
  have Z0 : Def P w K mg base CX0 1 "size_of" p_size_of (spSize K 0) := ⟨⟨_, fd_size_of, He.glo_ok X G (c.fact 19 (f := .glo "size_of") rfl), Fd_size_of.kp, Fd_size_of.bindsN (ps := p_size_of) (fun _ _ _ _ _ _ us hl => match us, hl with | [_], _ => rfl), ⟨fun _ _ _ _ h => h.elim, fun _ _ _ _ _ _ _ _ _ _ _ _ _ h => h.elim⟩⟩⟩
  have Z1 : Def P w K mg base CX0 2 "size_of" p_size_of (spSize K 1) := ⟨⟨_, fd_size_of, He.glo_ok X G (c.fact 19 (f := .glo "size_of") rfl), Fd_size_of.kp, Fd_size_of.bindsN (ps := p_size_of) (fun _ _ _ _ _ _ us hl => match us, hl with | [_], _ => rfl), ok_size_of Fd_size_of T (by decide) G_lists_of Z0⟩⟩
  have Z2 : Def P w K mg base CX0 3 "size_of" p_size_of (spSize K 2) := ⟨⟨_, fd_size_of, He.glo_ok X G (c.fact 19 (f := .glo "size_of") rfl), Fd_size_of.kp, Fd_size_of.bindsN (ps := p_size_of) (fun _ _ _ _ _ _ us hl => match us, hl with | [_], _ => rfl), ok_size_of Fd_size_of T (by decide) G_lists_of Z1⟩⟩
  have Z3 : Def P w K mg base CX0 4 "size_of" p_size_of (spSize K 3) := ⟨⟨_, fd_size_of, He.glo_ok X G (c.fact 19 (f := .glo "size_of") rfl), Fd_size_of.kp, Fd_size_of.bindsN (ps := p_size_of) (fun _ _ _ _ _ _ us hl => match us, hl with | [_], _ => rfl), ok_size_of Fd_size_of T (by decide) G_lists_of Z2⟩⟩
  have Z4 : Def P w K mg base CX0 5 "size_of" p_size_of (spSize K 4) := ⟨⟨_, fd_size_of, He.glo_ok X G (c.fact 19 (f := .glo "size_of") rfl), Fd_size_of.kp, Fd_size_of.bindsN (ps := p_size_of) (fun _ _ _ _ _ _ us hl => match us, hl with | [_], _ => rfl), ok_size_of Fd_size_of T (by decide) G_lists_of Z3⟩⟩
  have Z5 : Def P w K mg base CX0 6 "size_of" p_size_of (spSize K 5) := ⟨⟨_, fd_size_of, He.glo_ok X G (c.fact 19 (f := .glo "size_of") rfl), Fd_size_of.kp, Fd_size_of.bindsN (ps := p_size_of) (fun _ _ _ _ _ _ us hl => match us, hl with | [_], _ => rfl), ok_size_of Fd_size_of T (by decide) G_lists_of Z4⟩⟩
  have Z6 : Def P w K mg base CX0 7 "size_of" p_size_of (spSize K 6) := ⟨⟨_, fd_size_of, He.glo_ok X G (c.fact 19 (f := .glo "size_of") rfl), Fd_size_of.kp, Fd_size_of.bindsN (ps := p_size_of) (fun _ _ _ _ _ _ us hl => match us, hl with | [_], _ => rfl), ok_size_of Fd_size_of T (by decide) G_lists_of Z5⟩⟩
  have G_are_sides : Def P w K mg base CX0 1 "are_sides" p_are_sides (spSides K) := ⟨⟨_, fd_are_sides, He.glo_ok X G (c.fact 17 (f := .glo "are_sides") rfl), Fd_are_sides.kp, Fd_are_sides.bindsN (ps := p_are_sides) (fun _ _ _ _ _ _ us hl => match us, hl with | [_], _ => rfl), ok_are_sides Fd_are_sides T⟩⟩
  have G_may_stand : Def P w K mg base CX0 2 "may_stand" p_may_stand (spMay K) := ⟨⟨_, fd_may_stand, He.glo_ok X G (c.fact 18 (f := .glo "may_stand") rfl), Fd_may_stand.kp, Fd_may_stand.bindsN (ps := p_may_stand) (fun _ _ _ _ _ _ us hl => match us, hl with | [_, _, _], _ => rfl), ok_may_stand Fd_may_stand T G_lists_of⟩⟩
  have M_fits : MDef P w K mg base CX0 3 (He.ga K "RowCheck") "fits" p_RowCheck_fits (spFits K) := ⟨T.c_RowCheck, ⟨_, fd_RowCheck_fits, He.meth_ok (c.fact 107 (f := .meth "RowCheck" "fits") rfl), Fd_RowCheck_fits.bindsN (ps := p_RowCheck_fits) (fun _ _ _ _ _ _ us hl => match us, hl with | [_, _, _], _ => rfl), ok_fits Fd_RowCheck_fits T G_is_word G_are_words G_are_sides⟩⟩
  have M_has_form : MDef P w K mg base CX0 4 (He.ga K "RowCheck") "has_form" p_RowCheck_has_form (spHasForm K) := ⟨T.c_RowCheck, ⟨_, fd_RowCheck_has_form, He.meth_ok (c.fact 106 (f := .meth "RowCheck" "has_form") rfl), Fd_RowCheck_has_form.bindsN (ps := p_RowCheck_has_form) (fun _ _ _ _ _ _ us hl => match us, hl with | [_, _], _ => rfl), ok_has_form Fd_RowCheck_has_form T M_fits⟩⟩
  have M_is_new : MDef P w K mg base CX0 1 (He.ga K "RowCheck") "is_new" p_RowCheck_is_new (spIsNew K) := ⟨T.c_RowCheck, ⟨_, fd_RowCheck_is_new, He.meth_ok (c.fact 108 (f := .meth "RowCheck" "is_new") rfl), Fd_RowCheck_is_new.bindsN (ps := p_RowCheck_is_new) (fun _ _ _ _ _ _ us hl => match us, hl with | [_, _], _ => rfl), ok_is_new Fd_RowCheck_is_new T⟩⟩
  have V0 : MDef P w K mg base (L2.CX P w) 5 (He.ga K "RowCheck") "check_list" p_RowCheck_check_list (spCheck K 0) := ⟨T.c_RowCheck, ⟨_, fd_RowCheck_check_list, He.meth_ok (c.fact 105 (f := .meth "RowCheck" "check_list") rfl), Fd_RowCheck_check_list.bindsN (ps := p_RowCheck_check_list) (fun _ _ _ _ _ _ us hl => match us, hl with | [_, _, _, _], _ => rfl), ⟨fun _ _ _ _ h => h.elim, fun _ _ _ _ _ _ _ _ _ _ _ _ _ h => h.elim⟩⟩⟩
  have V1 : MDef P w K mg base (L2.CX P w) 6 (He.ga K "RowCheck") "check_list" p_RowCheck_check_list (spCheck K 1) := ⟨T.c_RowCheck, ⟨_, fd_RowCheck_check_list, He.meth_ok (c.fact 105 (f := .meth "RowCheck" "check_list") rfl), Fd_RowCheck_check_list.bindsN (ps := p_RowCheck_check_list) (fun _ _ _ _ _ _ us hl => match us, hl with | [_, _, _, _], _ => rfl), ok_check_list Fd_RowCheck_check_list T (by decide) IP G_lists_of G_may_stand M_has_form M_is_new V0⟩⟩
  have V2 : MDef P w K mg base (L2.CX P w) 7 (He.ga K "RowCheck") "check_list" p_RowCheck_check_list (spCheck K 2) := ⟨T.c_RowCheck, ⟨_, fd_RowCheck_check_list, He.meth_ok (c.fact 105 (f := .meth "RowCheck" "check_list") rfl), Fd_RowCheck_check_list.bindsN (ps := p_RowCheck_check_list) (fun _ _ _ _ _ _ us hl => match us, hl with | [_, _, _, _], _ => rfl), ok_check_list Fd_RowCheck_check_list T (by decide) IP G_lists_of G_may_stand M_has_form M_is_new V1⟩⟩
  have V3 : MDef P w K mg base (L2.CX P w) 8 (He.ga K "RowCheck") "check_list" p_RowCheck_check_list (spCheck K 3) := ⟨T.c_RowCheck, ⟨_, fd_RowCheck_check_list, He.meth_ok (c.fact 105 (f := .meth "RowCheck" "check_list") rfl), Fd_RowCheck_check_list.bindsN (ps := p_RowCheck_check_list) (fun _ _ _ _ _ _ us hl => match us, hl with | [_, _, _, _], _ => rfl), ok_check_list Fd_RowCheck_check_list T (by decide) IP G_lists_of G_may_stand M_has_form M_is_new V2⟩⟩
  have V4 : MDef P w K mg base (L2.CX P w) 9 (He.ga K "RowCheck") "check_list" p_RowCheck_check_list (spCheck K 4) := ⟨T.c_RowCheck, ⟨_, fd_RowCheck_check_list, He.meth_ok (c.fact 105 (f := .meth "RowCheck" "check_list") rfl), Fd_RowCheck_check_list.bindsN (ps := p_RowCheck_check_list) (fun _ _ _ _ _ _ us hl => match us, hl with | [_, _, _, _], _ => rfl), ok_check_list Fd_RowCheck_check_list T (by decide) IP G_lists_of G_may_stand M_has_form M_is_new V3⟩⟩
  have V5 : MDef P w K mg base (L2.CX P w) 10 (He.ga K "RowCheck") "check_list" p_RowCheck_check_list (spCheck K 5) := ⟨T.c_RowCheck, ⟨_, fd_RowCheck_check_list, He.meth_ok (c.fact 105 (f := .meth "RowCheck" "check_list") rfl), Fd_RowCheck_check_list.bindsN (ps := p_RowCheck_check_list) (fun _ _ _ _ _ _ us hl => match us, hl with | [_, _, _, _], _ => rfl), ok_check_list Fd_RowCheck_check_list T (by decide) IP G_lists_of G_may_stand M_has_form M_is_new V4⟩⟩
  have V6 : MDef P w K mg base (L2.CX P w) 11 (He.ga K "RowCheck") "check_list" p_RowCheck_check_list (spCheck K 6) := ⟨T.c_RowCheck, ⟨_, fd_RowCheck_check_list, He.meth_ok (c.fact 105 (f := .meth "RowCheck" "check_list") rfl), Fd_RowCheck_check_list.bindsN (ps := p_RowCheck_check_list) (fun _ _ _ _ _ _ us hl => match us, hl with | [_, _, _, _], _ => rfl), ok_check_list Fd_RowCheck_check_list T (by decide) IP G_lists_of G_may_stand M_has_form M_is_new V5⟩⟩
  have M_check_rows : MDef P w K mg base (L2.CX P w) 12 (He.ga K "RowCheck") "check_rows" p_RowCheck_check_rows (spCheckRows K 5) := ⟨T.c_RowCheck, ⟨_, fd_RowCheck_check_rows, He.meth_ok (c.fact 104 (f := .meth "RowCheck" "check_rows") rfl), Fd_RowCheck_check_rows.bindsN (ps := p_RowCheck_check_rows) (fun _ _ _ _ _ _ us hl => match us, hl with | [_, _], _ => rfl), ok_check_rows Fd_RowCheck_check_rows T (by decide) IP V6⟩⟩
  have K_RowCheck : MkA P w K mg base CX0 1 "RowCheck" (He.ga K "RowCheck") [] p_RowCheck___init__ (spRCinit K) := ⟨⟨_, fd_RowCheck___init__, [], He.glo_ok X G (c.fact 7 (f := .glo "RowCheck") rfl), He.mkr_ok (c.fact 81 (f := .mkr "RowCheck") rfl), Fd_RowCheck___init__.bindsN (ps := p_RowCheck___init__) (fun _ _ _ _ _ _ us hl => match us, hl with | [_, _, _, _], _ => rfl), .nil, ok_RCinit Fd_RowCheck___init__ T⟩⟩
  have G_end_within : Def P w K mg base CX0 1 "end_within" p_end_within (spEnd K) := ⟨⟨_, fd_end_within, He.glo_ok X G (c.fact 20 (f := .glo "end_within") rfl), Fd_end_within.kp, Fd_end_within.bindsN (ps := p_end_within) (fun _ _ _ _ _ _ us hl => match us, hl with | [_, _, _], _ => rfl), ok_end_within Fd_end_within T⟩⟩
  have R0 : MDef P w K mg base CX0 7 (He.ga K "Plan") "lay_row" p_Plan_lay_row (spLayRow K 0) := ⟨T.c_Plan, ⟨_, fd_Plan_lay_row, He.meth_ok (c.fact 110 (f := .meth "Plan" "lay_row") rfl), Fd_Plan_lay_row.bindsN (ps := p_Plan_lay_row) (fun _ _ _ _ _ _ us hl => match us, hl with | [_, _, _, _, _], _ => rfl), ⟨fun _ _ _ _ h => h.elim, fun _ _ _ _ _ _ _ _ _ _ _ _ _ h => h.elim⟩⟩⟩
  have Y1 : MDef P w K mg base CX0 8 (He.ga K "Plan") "lay_list" p_Plan_lay_list (spLayList K 1) := ⟨T.c_Plan, ⟨_, fd_Plan_lay_list, He.meth_ok (c.fact 109 (f := .meth "Plan" "lay_list") rfl), Fd_Plan_lay_list.bindsN (ps := p_Plan_lay_list) (fun _ _ _ _ _ _ us hl => match us, hl with | [_, _, _, _, _], _ => rfl), ok_lay_list Fd_Plan_lay_list T (by decide) Z1 R0⟩⟩
  have R1 : MDef P w K mg base CX0 9 (He.ga K "Plan") "lay_row" p_Plan_lay_row (spLayRow K 1) := ⟨T.c_Plan, ⟨_, fd_Plan_lay_row, He.meth_ok (c.fact 110 (f := .meth "Plan" "lay_row") rfl), Fd_Plan_lay_row.bindsN (ps := p_Plan_lay_row) (fun _ _ _ _ _ _ us hl => match us, hl with | [_, _, _, _, _], _ => rfl), ok_lay_row Fd_Plan_lay_row T (by decide) G_lists_of G_end_within Y1⟩⟩
  have Y2 : MDef P w K mg base CX0 10 (He.ga K "Plan") "lay_list" p_Plan_lay_list (spLayList K 2) := ⟨T.c_Plan, ⟨_, fd_Plan_lay_list, He.meth_ok (c.fact 109 (f := .meth "Plan" "lay_list") rfl), Fd_Plan_lay_list.bindsN (ps := p_Plan_lay_list) (fun _ _ _ _ _ _ us hl => match us, hl with | [_, _, _, _, _], _ => rfl), ok_lay_list Fd_Plan_lay_list T (by decide) Z2 R1⟩⟩
  have R2 : MDef P w K mg base CX0 11 (He.ga K "Plan") "lay_row" p_Plan_lay_row (spLayRow K 2) := ⟨T.c_Plan, ⟨_, fd_Plan_lay_row, He.meth_ok (c.fact 110 (f := .meth "Plan" "lay_row") rfl), Fd_Plan_lay_row.bindsN (ps := p_Plan_lay_row) (fun _ _ _ _ _ _ us hl => match us, hl with | [_, _, _, _, _], _ => rfl), ok_lay_row Fd_Plan_lay_row T (by decide) G_lists_of G_end_within Y2⟩⟩
  have Y3 : MDef P w K mg base CX0 12 (He.ga K "Plan") "lay_list" p_Plan_lay_list (spLayList K 3) := ⟨T.c_Plan, ⟨_, fd_Plan_lay_list, He.meth_ok (c.fact 109 (f := .meth "Plan" "lay_list") rfl), Fd_Plan_lay_list.bindsN (ps := p_Plan_lay_list) (fun _ _ _ _ _ _ us hl => match us, hl with | [_, _, _, _, _], _ => rfl), ok_lay_list Fd_Plan_lay_list T (by decide) Z3 R2⟩⟩
  have R3 : MDef P w K mg base CX0 13 (He.ga K "Plan") "lay_row" p_Plan_lay_row (spLayRow K 3) := ⟨T.c_Plan, ⟨_, fd_Plan_lay_row, He.meth_ok (c.fact 110 (f := .meth "Plan" "lay_row") rfl), Fd_Plan_lay_row.bindsN (ps := p_Plan_lay_row) (fun _ _ _ _ _ _ us hl => match us, hl with | [_, _, _, _, _], _ => rfl), ok_lay_row Fd_Plan_lay_row T (by decide) G_lists_of G_end_within Y3⟩⟩
  have Y4 : MDef P w K mg base CX0 14 (He.ga K "Plan") "lay_list" p_Plan_lay_list (spLayList K 4) := ⟨T.c_Plan, ⟨_, fd_Plan_lay_list, He.meth_ok (c.fact 109 (f := .meth "Plan" "lay_list") rfl), Fd_Plan_lay_list.bindsN (ps := p_Plan_lay_list) (fun _ _ _ _ _ _ us hl => match us, hl with | [_, _, _, _, _], _ => rfl), ok_lay_list Fd_Plan_lay_list T (by decide) Z4 R3⟩⟩
  have R4 : MDef P w K mg base CX0 15 (He.ga K "Plan") "lay_row" p_Plan_lay_row (spLayRow K 4) := ⟨T.c_Plan, ⟨_, fd_Plan_lay_row, He.meth_ok (c.fact 110 (f := .meth "Plan" "lay_row") rfl), Fd_Plan_lay_row.bindsN (ps := p_Plan_lay_row) (fun _ _ _ _ _ _ us hl => match us, hl with | [_, _, _, _, _], _ => rfl), ok_lay_row Fd_Plan_lay_row T (by decide) G_lists_of G_end_within Y4⟩⟩
  have Y5 : MDef P w K mg base CX0 16 (He.ga K "Plan") "lay_list" p_Plan_lay_list (spLayList K 5) := ⟨T.c_Plan, ⟨_, fd_Plan_lay_list, He.meth_ok (c.fact 109 (f := .meth "Plan" "lay_list") rfl), Fd_Plan_lay_list.bindsN (ps := p_Plan_lay_list) (fun _ _ _ _ _ _ us hl => match us, hl with | [_, _, _, _, _], _ => rfl), ok_lay_list Fd_Plan_lay_list T (by decide) Z5 R4⟩⟩
  have R5 : MDef P w K mg base CX0 17 (He.ga K "Plan") "lay_row" p_Plan_lay_row (spLayRow K 5) := ⟨T.c_Plan, ⟨_, fd_Plan_lay_row, He.meth_ok (c.fact 110 (f := .meth "Plan" "lay_row") rfl), Fd_Plan_lay_row.bindsN (ps := p_Plan_lay_row) (fun _ _ _ _ _ _ us hl => match us, hl with | [_, _, _, _, _], _ => rfl), ok_lay_row Fd_Plan_lay_row T (by decide) G_lists_of G_end_within Y5⟩⟩
  have Y6 : MDef P w K mg base CX0 18 (He.ga K "Plan") "lay_list" p_Plan_lay_list (spLayList K 6) := ⟨T.c_Plan, ⟨_, fd_Plan_lay_list, He.meth_ok (c.fact 109 (f := .meth "Plan" "lay_list") rfl), Fd_Plan_lay_list.bindsN (ps := p_Plan_lay_list) (fun _ _ _ _ _ _ us hl => match us, hl with | [_, _, _, _, _], _ => rfl), ok_lay_list Fd_Plan_lay_list T (by decide) Z6 R5⟩⟩
  have K_Plan : MkA P w K mg base CX0 19 "Plan" (He.ga K "Plan") [] p_Plan___init__ (spPlanInit K 5) := ⟨⟨_, fd_Plan___init__, [], He.glo_ok X G (c.fact 8 (f := .glo "Plan") rfl), He.mkr_ok (c.fact 88 (f := .mkr "Plan") rfl), Fd_Plan___init__.bindsN (ps := p_Plan___init__) (fun _ _ _ _ _ _ us hl => match us, hl with | [_, _], _ => rfl), .nil, ok_plan Fd_Plan___init__ T Y6⟩⟩
  have G_named_in : Def P w K mg base CX0 2 "named_in" p_named_in (spNamedIn K) := ⟨⟨_, fd_named_in, He.glo_ok X G (c.fact 23 (f := .glo "named_in") rfl), Fd_named_in.kp, Fd_named_in.bindsN (ps := p_named_in) (fun _ _ _ _ _ _ us hl => match us, hl with | [_], _ => rfl), ok_named_in Fd_named_in T G_words_named⟩⟩
  have G_check_sizes : Def P w K mg base (L2.CX P w) 3 "check_sizes" p_check_sizes (spSizes K) := ⟨⟨_, fd_check_sizes, He.glo_ok X G (c.fact 24 (f := .glo "check_sizes") rfl), Fd_check_sizes.kp, Fd_check_sizes.bindsN (ps := p_check_sizes) (fun _ _ _ _ _ _ us hl => match us, hl with | [_, _], _ => rfl), ok_check_sizes Fd_check_sizes T IP⟩⟩
  have G_is_entry : Def P w K mg base CX0 3 "is_entry" p_is_entry (spEntry K) := ⟨⟨_, fd_is_entry, He.glo_ok X G (c.fact 22 (f := .glo "is_entry") rfl), Fd_is_entry.kp, Fd_is_entry.bindsN (ps := p_is_entry) (fun _ _ _ _ _ _ us hl => match us, hl with | [_, _], _ => rfl), ok_is_entry Fd_is_entry T G_is_integer G_are_words⟩⟩
  have G_checked_table : Def P w K mg base (L2.CX P w) 4 "checked_table" p_checked_table (spTable K) := ⟨⟨_, fd_checked_table, He.glo_ok X G (c.fact 21 (f := .glo "checked_table") rfl), Fd_checked_table.kp, Fd_checked_table.bindsN (ps := p_checked_table) (fun _ _ _ _ _ _ us hl => match us, hl with | [_, _, _], _ => rfl), ok_checked_table Fd_checked_table T IP G_is_word G_is_entry⟩⟩
  have C_Draft : CFun P w K mg base (L2.CX P w) 21 "Draft" (He.ga K "Draft") "__init__" p_Draft___init__ (spDraft K 5) := ⟨⟨_, fd_Draft___init__, _, He.glo_ok X G (c.fact 6 (f := .glo "Draft") rfl), (drB_ok e.dr).1, (drB_ok e.dr).2, Fd_Draft___init__.kp, Fd_Draft___init__.bindsN (ps := p_Draft___init__) (fun _ _ _ _ _ _ us hl => match us, hl with | [_, _, _, _, _, _], _ => rfl), ok_draft (k0 := 20) Fd_Draft___init__ T (by decide) (by decide) (by decide) (by decide) IP G_checked_table G_are_words K_RowCheck M_check_rows C6 K_Plan G_named_in G_check_sizes⟩⟩
  have dcProgram : DCls K (He.ga K "Program") := ⟨T.c_Program, fun f hf => by
    simp only [List.mem_cons, List.not_mem_nil, or_false] at hf
    rcases hf with rfl | rfl | rfl | rfl | rfl | rfl
    · exact T.n_Program_ask_table
    · exact T.n_Program_signal_table
    · exact T.n_Program_input_words
    · exact T.n_Program_row_list
    · exact T.n_Program_plan
    · exact T.n_Program_name_table⟩
  obtain ⟨F2Program, kbProgram⟩ := kw_Program e.kPr Fd_Program___init__ rfl
  have kcProgram : KwCls P w K mg base 22 "Program" (He.ga K "Program") p_Program___init__ (spProgInit K 5) := ⟨⟨_, fd_Program___init__, T.m_Program, He.mkr_ok (c.fact 97 (f := .mkr "Program") rfl), kbProgram, ok_program F2Program T dcProgram C_Draft⟩⟩
  have G_is_integerG : Def P w K mg base CX0 1 "is_integer" p_is_integer (spIsIntG K) := ⟨⟨_, fd_is_integer, He.glo_ok X G (c.fact 15 (f := .glo "is_integer") rfl), Fd_is_integer.kp, Fd_is_integer.bindsN (ps := p_is_integer) (fun _ _ _ _ _ _ us hl => match us, hl with | [_], _ => rfl), ok_is_integerG Fd_is_integer T⟩⟩
  have M_has_path : MDef P w K mg base CX0 2 (He.ga K "Program") "has_path" p_Program_has_path (spHas K 5) := ⟨T.c_Program, ⟨_, fd_Program_has_path, He.meth_ok (c.fact 114 (f := .meth "Program" "has_path") rfl), Fd_Program_has_path.bindsN (ps := p_Program_has_path) (fun _ _ _ _ _ _ us hl => match us, hl with | [_, _], _ => rfl), ok_has_path Fd_Program_has_path T G_is_integerG⟩⟩
  have M_paths : MDef P w K mg base CX0 1 (He.ga K "Program") "paths" p_Program_paths (spPaths K 5) := ⟨T.c_Program, ⟨_, fd_Program_paths, He.meth_ok (c.fact 112 (f := .meth "Program" "paths") rfl), Fd_Program_paths.bindsN (ps := p_Program_paths) (fun _ _ _ _ _ _ us hl => match us, hl with | [_], _ => rfl), ok_paths Fd_Program_paths T⟩⟩
  have M_rows : MDef P w K mg base CX0 8 (He.ga K "Program") "rows" p_Program_rows (spRows K 5) := ⟨T.c_Program, ⟨_, fd_Program_rows, He.meth_ok (c.fact 111 (f := .meth "Program" "rows") rfl), Fd_Program_rows.bindsN (ps := p_Program_rows) (fun _ _ _ _ _ _ us hl => match us, hl with | [_], _ => rfl), ok_rows Fd_Program_rows T C6⟩⟩
  have CU : Def P w K mg base CX0 7 "copied" p_copied (fun vs H Q E => ∃ e, e < 5 ∧ spCopied K (e + 2) vs H Q E) := ⟨⟨_, fd_copied, He.glo_ok X G (c.fact 13 (f := .glo "copied") rfl), Fd_copied.kp, Fd_copied.bindsN (ps := p_copied) (fun _ _ _ _ _ _ us hl => match us, hl with | [_], _ => rfl), fnok_some fun e he => match e, he with | 0, _ => fnok_up (k := 3) (by decide) (ok_copied Fd_copied T (by decide) G_lists_of G_with_lists C1) | 1, _ => fnok_up (k := 4) (by decide) (ok_copied Fd_copied T (by decide) G_lists_of G_with_lists C2) | 2, _ => fnok_up (k := 5) (by decide) (ok_copied Fd_copied T (by decide) G_lists_of G_with_lists C3) | 3, _ => fnok_up (k := 6) (by decide) (ok_copied Fd_copied T (by decide) G_lists_of G_with_lists C4) | 4, _ => fnok_up (k := 7) (by decide) (ok_copied Fd_copied T (by decide) G_lists_of G_with_lists C5) | n + 5, h => absurd h (by omega)⟩⟩
  have M_row_at : MDef P w K mg base (L2.CX P w) 8 (He.ga K "Program") "row_at" p_Program_row_at (spRowAt K 5) := ⟨T.c_Program, ⟨_, fd_Program_row_at, He.meth_ok (c.fact 113 (f := .meth "Program" "row_at") rfl), Fd_Program_row_at.bindsN (ps := p_Program_row_at) (fun _ _ _ _ _ _ us hl => match us, hl with | [_, _], _ => rfl), ok_row_at (kd := 7) (k0 := 7) Fd_Program_row_at T (by decide) (by decide) IA M_has_path ⟨_, CU, fun e he vs H Q E h => ⟨e, he, h⟩⟩⟩⟩
  have G__law_bag : Def P w K mg base CX0 1 "_law_bag" p__law_bag (spBag K) := ⟨⟨_, fd__law_bag, He.glo_ok X G (c.fact 25 (f := .glo "_law_bag") rfl), Fd__law_bag.kp, Fd__law_bag.bindsN (ps := p__law_bag) (fun _ _ _ _ _ _ us hl => match us, hl with | [_], _ => rfl), ok_bag Fd__law_bag T⟩⟩
  have G__law_draw : Def P w K mg base CX0 1 "_law_draw" p__law_draw spDraw := ⟨⟨_, fd__law_draw, He.glo_ok X G (c.fact 26 (f := .glo "_law_draw") rfl), Fd__law_draw.kp, Fd__law_draw.bindsN (ps := p__law_draw) (fun _ _ _ _ _ _ us hl => match us, hl with | [_, _], _ => rfl), ok_draw Fd__law_draw T⟩⟩
  have G__law_one : Def P w K mg base CX0 2 "_law_one" p__law_one (spOne K) := ⟨⟨_, fd__law_one, He.glo_ok X G (c.fact 27 (f := .glo "_law_one") rfl), Fd__law_one.kp, Fd__law_one.bindsN (ps := p__law_one) (fun _ _ _ _ _ _ us hl => match us, hl with | [_, _], _ => rfl), ok_one Fd__law_one T G__law_draw⟩⟩
  have G__law_words : Def P w K mg base CX0 2 "_law_words" p__law_words (spWords K) := ⟨⟨_, fd__law_words, He.glo_ok X G (c.fact 28 (f := .glo "_law_words") rfl), Fd__law_words.kp, Fd__law_words.bindsN (ps := p__law_words) (fun _ _ _ _ _ _ us hl => match us, hl with | [_, _, _, _], _ => rfl), ok_words Fd__law_words T G__law_draw⟩⟩
  have G__law_start_row : Def P w K mg base CX0 3 "_law_start_row" p__law_start_row (spStart K) := ⟨⟨_, fd__law_start_row, He.glo_ok X G (c.fact 30 (f := .glo "_law_start_row") rfl), Fd__law_start_row.kp, Fd__law_start_row.bindsN (ps := p__law_start_row) (fun _ _ _ _ _ _ us hl => match us, hl with | [_, _, _], _ => rfl), ok_start_row Fd__law_start_row T G__law_draw G__law_one⟩⟩
  have W0 : Def P w K mg base CX0 4 "_law_list" p__law_list (spList K 0) := ⟨⟨_, fd__law_list, He.glo_ok X G (c.fact 33 (f := .glo "_law_list") rfl), Fd__law_list.kp, Fd__law_list.bindsN (ps := p__law_list) (fun _ _ _ _ _ _ us hl => match us, hl with | [_, _, _, _], _ => rfl), ⟨fun _ _ _ _ h => h.elim, fun _ _ _ _ _ _ _ _ _ _ _ _ _ h => h.elim⟩⟩⟩
  have PL0 : Def P w K mg base CX0 4 "_law_plain_row" p__law_plain_row (spPlain K 0) := ⟨⟨_, fd__law_plain_row, He.glo_ok X G (c.fact 31 (f := .glo "_law_plain_row") rfl), Fd__law_plain_row.kp, Fd__law_plain_row.bindsN (ps := p__law_plain_row) (fun _ _ _ _ _ _ us hl => match us, hl with | [_, _, _, _], _ => rfl), ok_plain_row Fd__law_plain_row T G__law_draw G__law_one G__law_words G__law_start_row⟩⟩
  have GR0 : Def P w K mg base CX0 5 "_law_great_row" p__law_great_row (spGreat K 0) := ⟨⟨_, fd__law_great_row, He.glo_ok X G (c.fact 32 (f := .glo "_law_great_row") rfl), Fd__law_great_row.kp, Fd__law_great_row.bindsN (ps := p__law_great_row) (fun _ _ _ _ _ _ us hl => match us, hl with | [_, _, _, _, _], _ => rfl), ok_great_row Fd__law_great_row T (by decide) G__law_draw G__law_one W0⟩⟩
  have W1 : Def P w K mg base CX0 6 "_law_list" p__law_list (spList K 1) := ⟨⟨_, fd__law_list, He.glo_ok X G (c.fact 33 (f := .glo "_law_list") rfl), Fd__law_list.kp, Fd__law_list.bindsN (ps := p__law_list) (fun _ _ _ _ _ _ us hl => match us, hl with | [_, _, _, _], _ => rfl), ok_list Fd__law_list T (by decide) G__law_draw G__law_one G__law_start_row PL0 GR0⟩⟩
  have PL1 : Def P w K mg base CX0 4 "_law_plain_row" p__law_plain_row (spPlain K 1) := ⟨⟨_, fd__law_plain_row, He.glo_ok X G (c.fact 31 (f := .glo "_law_plain_row") rfl), Fd__law_plain_row.kp, Fd__law_plain_row.bindsN (ps := p__law_plain_row) (fun _ _ _ _ _ _ us hl => match us, hl with | [_, _, _, _], _ => rfl), ok_plain_row Fd__law_plain_row T G__law_draw G__law_one G__law_words G__law_start_row⟩⟩
  have GR1 : Def P w K mg base CX0 7 "_law_great_row" p__law_great_row (spGreat K 1) := ⟨⟨_, fd__law_great_row, He.glo_ok X G (c.fact 32 (f := .glo "_law_great_row") rfl), Fd__law_great_row.kp, Fd__law_great_row.bindsN (ps := p__law_great_row) (fun _ _ _ _ _ _ us hl => match us, hl with | [_, _, _, _, _], _ => rfl), ok_great_row Fd__law_great_row T (by decide) G__law_draw G__law_one W1⟩⟩
  have W2 : Def P w K mg base CX0 8 "_law_list" p__law_list (spList K 2) := ⟨⟨_, fd__law_list, He.glo_ok X G (c.fact 33 (f := .glo "_law_list") rfl), Fd__law_list.kp, Fd__law_list.bindsN (ps := p__law_list) (fun _ _ _ _ _ _ us hl => match us, hl with | [_, _, _, _], _ => rfl), ok_list Fd__law_list T (by decide) G__law_draw G__law_one G__law_start_row PL1 GR1⟩⟩
  have PL2 : Def P w K mg base CX0 4 "_law_plain_row" p__law_plain_row (spPlain K 2) := ⟨⟨_, fd__law_plain_row, He.glo_ok X G (c.fact 31 (f := .glo "_law_plain_row") rfl), Fd__law_plain_row.kp, Fd__law_plain_row.bindsN (ps := p__law_plain_row) (fun _ _ _ _ _ _ us hl => match us, hl with | [_, _, _, _], _ => rfl), ok_plain_row Fd__law_plain_row T G__law_draw G__law_one G__law_words G__law_start_row⟩⟩
  have GR2 : Def P w K mg base CX0 9 "_law_great_row" p__law_great_row (spGreat K 2) := ⟨⟨_, fd__law_great_row, He.glo_ok X G (c.fact 32 (f := .glo "_law_great_row") rfl), Fd__law_great_row.kp, Fd__law_great_row.bindsN (ps := p__law_great_row) (fun _ _ _ _ _ _ us hl => match us, hl with | [_, _, _, _, _], _ => rfl), ok_great_row Fd__law_great_row T (by decide) G__law_draw G__law_one W2⟩⟩
  have W3 : Def P w K mg base CX0 10 "_law_list" p__law_list (spList K 3) := ⟨⟨_, fd__law_list, He.glo_ok X G (c.fact 33 (f := .glo "_law_list") rfl), Fd__law_list.kp, Fd__law_list.bindsN (ps := p__law_list) (fun _ _ _ _ _ _ us hl => match us, hl with | [_, _, _, _], _ => rfl), ok_list Fd__law_list T (by decide) G__law_draw G__law_one G__law_start_row PL2 GR2⟩⟩
  have PL3 : Def P w K mg base CX0 4 "_law_plain_row" p__law_plain_row (spPlain K 3) := ⟨⟨_, fd__law_plain_row, He.glo_ok X G (c.fact 31 (f := .glo "_law_plain_row") rfl), Fd__law_plain_row.kp, Fd__law_plain_row.bindsN (ps := p__law_plain_row) (fun _ _ _ _ _ _ us hl => match us, hl with | [_, _, _, _], _ => rfl), ok_plain_row Fd__law_plain_row T G__law_draw G__law_one G__law_words G__law_start_row⟩⟩
  have GR3 : Def P w K mg base CX0 11 "_law_great_row" p__law_great_row (spGreat K 3) := ⟨⟨_, fd__law_great_row, He.glo_ok X G (c.fact 32 (f := .glo "_law_great_row") rfl), Fd__law_great_row.kp, Fd__law_great_row.bindsN (ps := p__law_great_row) (fun _ _ _ _ _ _ us hl => match us, hl with | [_, _, _, _, _], _ => rfl), ok_great_row Fd__law_great_row T (by decide) G__law_draw G__law_one W3⟩⟩
  have W4 : Def P w K mg base CX0 12 "_law_list" p__law_list (spList K 4) := ⟨⟨_, fd__law_list, He.glo_ok X G (c.fact 33 (f := .glo "_law_list") rfl), Fd__law_list.kp, Fd__law_list.bindsN (ps := p__law_list) (fun _ _ _ _ _ _ us hl => match us, hl with | [_, _, _, _], _ => rfl), ok_list Fd__law_list T (by decide) G__law_draw G__law_one G__law_start_row PL3 GR3⟩⟩
  have PL4 : Def P w K mg base CX0 4 "_law_plain_row" p__law_plain_row (spPlain K 4) := ⟨⟨_, fd__law_plain_row, He.glo_ok X G (c.fact 31 (f := .glo "_law_plain_row") rfl), Fd__law_plain_row.kp, Fd__law_plain_row.bindsN (ps := p__law_plain_row) (fun _ _ _ _ _ _ us hl => match us, hl with | [_, _, _, _], _ => rfl), ok_plain_row Fd__law_plain_row T G__law_draw G__law_one G__law_words G__law_start_row⟩⟩
  have GR4 : Def P w K mg base CX0 13 "_law_great_row" p__law_great_row (spGreat K 4) := ⟨⟨_, fd__law_great_row, He.glo_ok X G (c.fact 32 (f := .glo "_law_great_row") rfl), Fd__law_great_row.kp, Fd__law_great_row.bindsN (ps := p__law_great_row) (fun _ _ _ _ _ _ us hl => match us, hl with | [_, _, _, _, _], _ => rfl), ok_great_row Fd__law_great_row T (by decide) G__law_draw G__law_one W4⟩⟩
  have W5 : Def P w K mg base CX0 14 "_law_list" p__law_list (spList K 5) := ⟨⟨_, fd__law_list, He.glo_ok X G (c.fact 33 (f := .glo "_law_list") rfl), Fd__law_list.kp, Fd__law_list.bindsN (ps := p__law_list) (fun _ _ _ _ _ _ us hl => match us, hl with | [_, _, _, _], _ => rfl), ok_list Fd__law_list T (by decide) G__law_draw G__law_one G__law_start_row PL4 GR4⟩⟩
  have G__law_kit : Def P w K mg base CX0 3 "_law_kit" p__law_kit (spKit K) := ⟨⟨_, fd__law_kit, He.glo_ok X G (c.fact 29 (f := .glo "_law_kit") rfl), Fd__law_kit.kp, Fd__law_kit.bindsN (ps := p__law_kit) (fun _ _ _ _ _ _ us hl => match us, hl with | [_, _, _, _], _ => rfl), ok_kit Fd__law_kit T G__law_draw G__law_words⟩⟩
  have G__law_plan : Def P w K mg base CX0 15 "_law_plan" p__law_plan (spLPlan K) := ⟨⟨_, fd__law_plan, He.glo_ok X G (c.fact 34 (f := .glo "_law_plan") rfl), Fd__law_plan.kp, Fd__law_plan.bindsN (ps := p__law_plan) (fun _ _ _ _ _ _ us hl => match us, hl with | [_, _, _, _], _ => rfl), ok_lplan (k0 := 14) Fd__law_plan T (by decide) G__law_kit W5⟩⟩
  have P0 : Def P w K mg base CX0 1 "_law_copy_part" p__law_copy_part (spCpPart K 0) := ⟨⟨_, fd__law_copy_part, He.glo_ok X G (c.fact 35 (f := .glo "_law_copy_part") rfl), Fd__law_copy_part.kp, Fd__law_copy_part.bindsN (ps := p__law_copy_part) (fun _ _ _ _ _ _ us hl => match us, hl with | [_], _ => rfl), ⟨(fun _ _ _ _ h => by obtain ⟨_, t, _⟩ := h; exact Empty.elim t), (fun _ _ _ _ _ _ _ _ _ _ _ _ _ h => by obtain ⟨_, t, _⟩ := h; exact Empty.elim t)⟩⟩⟩
  have R_0 : Def P w K mg base CX0 2 "_law_copy_rows" p__law_copy_rows (spCpRows K 0) := ⟨⟨_, fd__law_copy_rows, He.glo_ok X G (c.fact 36 (f := .glo "_law_copy_rows") rfl), Fd__law_copy_rows.kp, Fd__law_copy_rows.bindsN (ps := p__law_copy_rows) (fun _ _ _ _ _ _ us hl => match us, hl with | [_], _ => rfl), ok_copy_rows Fd__law_copy_rows T P0⟩⟩
  have P1 : Def P w K mg base CX0 3 "_law_copy_part" p__law_copy_part (spCpPart K 1) := ⟨⟨_, fd__law_copy_part, He.glo_ok X G (c.fact 35 (f := .glo "_law_copy_part") rfl), Fd__law_copy_part.kp, Fd__law_copy_part.bindsN (ps := p__law_copy_part) (fun _ _ _ _ _ _ us hl => match us, hl with | [_], _ => rfl), ok_copy_part (k := 2) Fd__law_copy_part T (by decide) (by decide) P0 R_0⟩⟩
  have R_1 : Def P w K mg base CX0 4 "_law_copy_rows" p__law_copy_rows (spCpRows K 1) := ⟨⟨_, fd__law_copy_rows, He.glo_ok X G (c.fact 36 (f := .glo "_law_copy_rows") rfl), Fd__law_copy_rows.kp, Fd__law_copy_rows.bindsN (ps := p__law_copy_rows) (fun _ _ _ _ _ _ us hl => match us, hl with | [_], _ => rfl), ok_copy_rows Fd__law_copy_rows T P1⟩⟩
  have P2 : Def P w K mg base CX0 5 "_law_copy_part" p__law_copy_part (spCpPart K 2) := ⟨⟨_, fd__law_copy_part, He.glo_ok X G (c.fact 35 (f := .glo "_law_copy_part") rfl), Fd__law_copy_part.kp, Fd__law_copy_part.bindsN (ps := p__law_copy_part) (fun _ _ _ _ _ _ us hl => match us, hl with | [_], _ => rfl), ok_copy_part (k := 4) Fd__law_copy_part T (by decide) (by decide) P1 R_1⟩⟩
  have R_2 : Def P w K mg base CX0 6 "_law_copy_rows" p__law_copy_rows (spCpRows K 2) := ⟨⟨_, fd__law_copy_rows, He.glo_ok X G (c.fact 36 (f := .glo "_law_copy_rows") rfl), Fd__law_copy_rows.kp, Fd__law_copy_rows.bindsN (ps := p__law_copy_rows) (fun _ _ _ _ _ _ us hl => match us, hl with | [_], _ => rfl), ok_copy_rows Fd__law_copy_rows T P2⟩⟩
  have P3 : Def P w K mg base CX0 7 "_law_copy_part" p__law_copy_part (spCpPart K 3) := ⟨⟨_, fd__law_copy_part, He.glo_ok X G (c.fact 35 (f := .glo "_law_copy_part") rfl), Fd__law_copy_part.kp, Fd__law_copy_part.bindsN (ps := p__law_copy_part) (fun _ _ _ _ _ _ us hl => match us, hl with | [_], _ => rfl), ok_copy_part (k := 6) Fd__law_copy_part T (by decide) (by decide) P2 R_2⟩⟩
  have R_3 : Def P w K mg base CX0 8 "_law_copy_rows" p__law_copy_rows (spCpRows K 3) := ⟨⟨_, fd__law_copy_rows, He.glo_ok X G (c.fact 36 (f := .glo "_law_copy_rows") rfl), Fd__law_copy_rows.kp, Fd__law_copy_rows.bindsN (ps := p__law_copy_rows) (fun _ _ _ _ _ _ us hl => match us, hl with | [_], _ => rfl), ok_copy_rows Fd__law_copy_rows T P3⟩⟩
  have P4 : Def P w K mg base CX0 9 "_law_copy_part" p__law_copy_part (spCpPart K 4) := ⟨⟨_, fd__law_copy_part, He.glo_ok X G (c.fact 35 (f := .glo "_law_copy_part") rfl), Fd__law_copy_part.kp, Fd__law_copy_part.bindsN (ps := p__law_copy_part) (fun _ _ _ _ _ _ us hl => match us, hl with | [_], _ => rfl), ok_copy_part (k := 8) Fd__law_copy_part T (by decide) (by decide) P3 R_3⟩⟩
  have R_4 : Def P w K mg base CX0 10 "_law_copy_rows" p__law_copy_rows (spCpRows K 4) := ⟨⟨_, fd__law_copy_rows, He.glo_ok X G (c.fact 36 (f := .glo "_law_copy_rows") rfl), Fd__law_copy_rows.kp, Fd__law_copy_rows.bindsN (ps := p__law_copy_rows) (fun _ _ _ _ _ _ us hl => match us, hl with | [_], _ => rfl), ok_copy_rows Fd__law_copy_rows T P4⟩⟩
  have P5 : Def P w K mg base CX0 11 "_law_copy_part" p__law_copy_part (spCpPart K 5) := ⟨⟨_, fd__law_copy_part, He.glo_ok X G (c.fact 35 (f := .glo "_law_copy_part") rfl), Fd__law_copy_part.kp, Fd__law_copy_part.bindsN (ps := p__law_copy_part) (fun _ _ _ _ _ _ us hl => match us, hl with | [_], _ => rfl), ok_copy_part (k := 10) Fd__law_copy_part T (by decide) (by decide) P4 R_4⟩⟩
  have R_5 : Def P w K mg base CX0 12 "_law_copy_rows" p__law_copy_rows (spCpRows K 5) := ⟨⟨_, fd__law_copy_rows, He.glo_ok X G (c.fact 36 (f := .glo "_law_copy_rows") rfl), Fd__law_copy_rows.kp, Fd__law_copy_rows.bindsN (ps := p__law_copy_rows) (fun _ _ _ _ _ _ us hl => match us, hl with | [_], _ => rfl), ok_copy_rows Fd__law_copy_rows T P5⟩⟩
  have P6 : Def P w K mg base CX0 13 "_law_copy_part" p__law_copy_part (spCpPart K 6) := ⟨⟨_, fd__law_copy_part, He.glo_ok X G (c.fact 35 (f := .glo "_law_copy_part") rfl), Fd__law_copy_part.kp, Fd__law_copy_part.bindsN (ps := p__law_copy_part) (fun _ _ _ _ _ _ us hl => match us, hl with | [_], _ => rfl), ok_copy_part (k := 12) Fd__law_copy_part T (by decide) (by decide) P5 R_5⟩⟩
  have R_6 : Def P w K mg base CX0 14 "_law_copy_rows" p__law_copy_rows (spCpRows K 6) := ⟨⟨_, fd__law_copy_rows, He.glo_ok X G (c.fact 36 (f := .glo "_law_copy_rows") rfl), Fd__law_copy_rows.kp, Fd__law_copy_rows.bindsN (ps := p__law_copy_rows) (fun _ _ _ _ _ _ us hl => match us, hl with | [_], _ => rfl), ok_copy_rows Fd__law_copy_rows T P6⟩⟩
  have P7 : Def P w K mg base CX0 15 "_law_copy_part" p__law_copy_part (spCpPart K 7) := ⟨⟨_, fd__law_copy_part, He.glo_ok X G (c.fact 35 (f := .glo "_law_copy_part") rfl), Fd__law_copy_part.kp, Fd__law_copy_part.bindsN (ps := p__law_copy_part) (fun _ _ _ _ _ _ us hl => match us, hl with | [_], _ => rfl), ok_copy_part (k := 14) Fd__law_copy_part T (by decide) (by decide) P6 R_6⟩⟩
  have R_7 : Def P w K mg base CX0 16 "_law_copy_rows" p__law_copy_rows (spCpRows K 7) := ⟨⟨_, fd__law_copy_rows, He.glo_ok X G (c.fact 36 (f := .glo "_law_copy_rows") rfl), Fd__law_copy_rows.kp, Fd__law_copy_rows.bindsN (ps := p__law_copy_rows) (fun _ _ _ _ _ _ us hl => match us, hl with | [_], _ => rfl), ok_copy_rows Fd__law_copy_rows T P7⟩⟩
  have P8 : Def P w K mg base CX0 17 "_law_copy_part" p__law_copy_part (spCpPart K 8) := ⟨⟨_, fd__law_copy_part, He.glo_ok X G (c.fact 35 (f := .glo "_law_copy_part") rfl), Fd__law_copy_part.kp, Fd__law_copy_part.bindsN (ps := p__law_copy_part) (fun _ _ _ _ _ _ us hl => match us, hl with | [_], _ => rfl), ok_copy_part (k := 16) Fd__law_copy_part T (by decide) (by decide) P7 R_7⟩⟩
  have R_8 : Def P w K mg base CX0 18 "_law_copy_rows" p__law_copy_rows (spCpRows K 8) := ⟨⟨_, fd__law_copy_rows, He.glo_ok X G (c.fact 36 (f := .glo "_law_copy_rows") rfl), Fd__law_copy_rows.kp, Fd__law_copy_rows.bindsN (ps := p__law_copy_rows) (fun _ _ _ _ _ _ us hl => match us, hl with | [_], _ => rfl), ok_copy_rows Fd__law_copy_rows T P8⟩⟩
  have P9 : Def P w K mg base CX0 19 "_law_copy_part" p__law_copy_part (spCpPart K 9) := ⟨⟨_, fd__law_copy_part, He.glo_ok X G (c.fact 35 (f := .glo "_law_copy_part") rfl), Fd__law_copy_part.kp, Fd__law_copy_part.bindsN (ps := p__law_copy_part) (fun _ _ _ _ _ _ us hl => match us, hl with | [_], _ => rfl), ok_copy_part (k := 18) Fd__law_copy_part T (by decide) (by decide) P8 R_8⟩⟩
  have R_9 : Def P w K mg base CX0 20 "_law_copy_rows" p__law_copy_rows (spCpRows K 9) := ⟨⟨_, fd__law_copy_rows, He.glo_ok X G (c.fact 36 (f := .glo "_law_copy_rows") rfl), Fd__law_copy_rows.kp, Fd__law_copy_rows.bindsN (ps := p__law_copy_rows) (fun _ _ _ _ _ _ us hl => match us, hl with | [_], _ => rfl), ok_copy_rows Fd__law_copy_rows T P9⟩⟩
  have P10 : Def P w K mg base CX0 21 "_law_copy_part" p__law_copy_part (spCpPart K 10) := ⟨⟨_, fd__law_copy_part, He.glo_ok X G (c.fact 35 (f := .glo "_law_copy_part") rfl), Fd__law_copy_part.kp, Fd__law_copy_part.bindsN (ps := p__law_copy_part) (fun _ _ _ _ _ _ us hl => match us, hl with | [_], _ => rfl), ok_copy_part (k := 20) Fd__law_copy_part T (by decide) (by decide) P9 R_9⟩⟩
  have R_10 : Def P w K mg base CX0 22 "_law_copy_rows" p__law_copy_rows (spCpRows K 10) := ⟨⟨_, fd__law_copy_rows, He.glo_ok X G (c.fact 36 (f := .glo "_law_copy_rows") rfl), Fd__law_copy_rows.kp, Fd__law_copy_rows.bindsN (ps := p__law_copy_rows) (fun _ _ _ _ _ _ us hl => match us, hl with | [_], _ => rfl), ok_copy_rows Fd__law_copy_rows T P10⟩⟩
  have P11 : Def P w K mg base CX0 23 "_law_copy_part" p__law_copy_part (spCpPart K 11) := ⟨⟨_, fd__law_copy_part, He.glo_ok X G (c.fact 35 (f := .glo "_law_copy_part") rfl), Fd__law_copy_part.kp, Fd__law_copy_part.bindsN (ps := p__law_copy_part) (fun _ _ _ _ _ _ us hl => match us, hl with | [_], _ => rfl), ok_copy_part (k := 22) Fd__law_copy_part T (by decide) (by decide) P10 R_10⟩⟩
  have R_11 : Def P w K mg base CX0 24 "_law_copy_rows" p__law_copy_rows (spCpRows K 11) := ⟨⟨_, fd__law_copy_rows, He.glo_ok X G (c.fact 36 (f := .glo "_law_copy_rows") rfl), Fd__law_copy_rows.kp, Fd__law_copy_rows.bindsN (ps := p__law_copy_rows) (fun _ _ _ _ _ _ us hl => match us, hl with | [_], _ => rfl), ok_copy_rows Fd__law_copy_rows T P11⟩⟩
  have P12 : Def P w K mg base CX0 25 "_law_copy_part" p__law_copy_part (spCpPart K 12) := ⟨⟨_, fd__law_copy_part, He.glo_ok X G (c.fact 35 (f := .glo "_law_copy_part") rfl), Fd__law_copy_part.kp, Fd__law_copy_part.bindsN (ps := p__law_copy_part) (fun _ _ _ _ _ _ us hl => match us, hl with | [_], _ => rfl), ok_copy_part (k := 24) Fd__law_copy_part T (by decide) (by decide) P11 R_11⟩⟩
  have R_12 : Def P w K mg base CX0 26 "_law_copy_rows" p__law_copy_rows (spCpRows K 12) := ⟨⟨_, fd__law_copy_rows, He.glo_ok X G (c.fact 36 (f := .glo "_law_copy_rows") rfl), Fd__law_copy_rows.kp, Fd__law_copy_rows.bindsN (ps := p__law_copy_rows) (fun _ _ _ _ _ _ us hl => match us, hl with | [_], _ => rfl), ok_copy_rows Fd__law_copy_rows T P12⟩⟩
  have P13 : Def P w K mg base CX0 27 "_law_copy_part" p__law_copy_part (spCpPart K 13) := ⟨⟨_, fd__law_copy_part, He.glo_ok X G (c.fact 35 (f := .glo "_law_copy_part") rfl), Fd__law_copy_part.kp, Fd__law_copy_part.bindsN (ps := p__law_copy_part) (fun _ _ _ _ _ _ us hl => match us, hl with | [_], _ => rfl), ok_copy_part (k := 26) Fd__law_copy_part T (by decide) (by decide) P12 R_12⟩⟩
  have R_13 : Def P w K mg base CX0 28 "_law_copy_rows" p__law_copy_rows (spCpRows K 13) := ⟨⟨_, fd__law_copy_rows, He.glo_ok X G (c.fact 36 (f := .glo "_law_copy_rows") rfl), Fd__law_copy_rows.kp, Fd__law_copy_rows.bindsN (ps := p__law_copy_rows) (fun _ _ _ _ _ _ us hl => match us, hl with | [_], _ => rfl), ok_copy_rows Fd__law_copy_rows T P13⟩⟩
  have P14 : Def P w K mg base CX0 29 "_law_copy_part" p__law_copy_part (spCpPart K 14) := ⟨⟨_, fd__law_copy_part, He.glo_ok X G (c.fact 35 (f := .glo "_law_copy_part") rfl), Fd__law_copy_part.kp, Fd__law_copy_part.bindsN (ps := p__law_copy_part) (fun _ _ _ _ _ _ us hl => match us, hl with | [_], _ => rfl), ok_copy_part (k := 28) Fd__law_copy_part T (by decide) (by decide) P13 R_13⟩⟩
  have R_14 : Def P w K mg base CX0 30 "_law_copy_rows" p__law_copy_rows (spCpRows K 14) := ⟨⟨_, fd__law_copy_rows, He.glo_ok X G (c.fact 36 (f := .glo "_law_copy_rows") rfl), Fd__law_copy_rows.kp, Fd__law_copy_rows.bindsN (ps := p__law_copy_rows) (fun _ _ _ _ _ _ us hl => match us, hl with | [_], _ => rfl), ok_copy_rows Fd__law_copy_rows T P14⟩⟩
  have P15 : Def P w K mg base CX0 31 "_law_copy_part" p__law_copy_part (spCpPart K 15) := ⟨⟨_, fd__law_copy_part, He.glo_ok X G (c.fact 35 (f := .glo "_law_copy_part") rfl), Fd__law_copy_part.kp, Fd__law_copy_part.bindsN (ps := p__law_copy_part) (fun _ _ _ _ _ _ us hl => match us, hl with | [_], _ => rfl), ok_copy_part (k := 30) Fd__law_copy_part T (by decide) (by decide) P14 R_14⟩⟩
  have R_15 : Def P w K mg base CX0 32 "_law_copy_rows" p__law_copy_rows (spCpRows K 15) := ⟨⟨_, fd__law_copy_rows, He.glo_ok X G (c.fact 36 (f := .glo "_law_copy_rows") rfl), Fd__law_copy_rows.kp, Fd__law_copy_rows.bindsN (ps := p__law_copy_rows) (fun _ _ _ _ _ _ us hl => match us, hl with | [_], _ => rfl), ok_copy_rows Fd__law_copy_rows T P15⟩⟩
  have G__law_program : Def P w K mg base CX0 33 "_law_program" p__law_program (spLProg K) := ⟨⟨_, fd__law_program, He.glo_ok X G (c.fact 37 (f := .glo "_law_program") rfl), Fd__law_program.kp, Fd__law_program.bindsN (ps := p__law_program) (fun _ _ _ _ _ _ us hl => match us, hl with | [_], _ => rfl), ok_lprogram (k0 := 32) (kp := 22) (kc := 32) Fd__law_program T (by decide) (by decide) kcProgram R_15⟩⟩
  have S0 : Def P w K mg base CX0 0 "_law_same" p__law_same (spSame K 0) := ⟨⟨_, fd__law_same, He.glo_ok X G (c.fact 38 (f := .glo "_law_same") rfl), Fd__law_same.kp, Fd__law_same.bindsN (ps := p__law_same) (fun _ _ _ _ _ _ us hl => match us, hl with | [_, _], _ => rfl), ⟨(fun _ _ _ _ h => by obtain ⟨_, _, _, h, _⟩ := h; cases h), (fun _ _ _ _ _ _ _ _ _ _ _ _ _ h => by obtain ⟨_, _, _, h, _⟩ := h; cases h)⟩⟩⟩
  have S1 : Def P w K mg base CX0 1 "_law_same" p__law_same (spSame K 1) := ⟨⟨_, fd__law_same, He.glo_ok X G (c.fact 38 (f := .glo "_law_same") rfl), Fd__law_same.kp, Fd__law_same.bindsN (ps := p__law_same) (fun _ _ _ _ _ _ us hl => match us, hl with | [_, _], _ => rfl), ok_same Fd__law_same T S0⟩⟩
  have S2 : Def P w K mg base CX0 2 "_law_same" p__law_same (spSame K 2) := ⟨⟨_, fd__law_same, He.glo_ok X G (c.fact 38 (f := .glo "_law_same") rfl), Fd__law_same.kp, Fd__law_same.bindsN (ps := p__law_same) (fun _ _ _ _ _ _ us hl => match us, hl with | [_, _], _ => rfl), ok_same Fd__law_same T S1⟩⟩
  have S3 : Def P w K mg base CX0 3 "_law_same" p__law_same (spSame K 3) := ⟨⟨_, fd__law_same, He.glo_ok X G (c.fact 38 (f := .glo "_law_same") rfl), Fd__law_same.kp, Fd__law_same.bindsN (ps := p__law_same) (fun _ _ _ _ _ _ us hl => match us, hl with | [_, _], _ => rfl), ok_same Fd__law_same T S2⟩⟩
  have S4 : Def P w K mg base CX0 4 "_law_same" p__law_same (spSame K 4) := ⟨⟨_, fd__law_same, He.glo_ok X G (c.fact 38 (f := .glo "_law_same") rfl), Fd__law_same.kp, Fd__law_same.bindsN (ps := p__law_same) (fun _ _ _ _ _ _ us hl => match us, hl with | [_, _], _ => rfl), ok_same Fd__law_same T S3⟩⟩
  have S5 : Def P w K mg base CX0 5 "_law_same" p__law_same (spSame K 5) := ⟨⟨_, fd__law_same, He.glo_ok X G (c.fact 38 (f := .glo "_law_same") rfl), Fd__law_same.kp, Fd__law_same.bindsN (ps := p__law_same) (fun _ _ _ _ _ _ us hl => match us, hl with | [_, _], _ => rfl), ok_same Fd__law_same T S4⟩⟩
  have S6 : Def P w K mg base CX0 6 "_law_same" p__law_same (spSame K 6) := ⟨⟨_, fd__law_same, He.glo_ok X G (c.fact 38 (f := .glo "_law_same") rfl), Fd__law_same.kp, Fd__law_same.bindsN (ps := p__law_same) (fun _ _ _ _ _ _ us hl => match us, hl with | [_, _], _ => rfl), ok_same Fd__law_same T S5⟩⟩
  have S7 : Def P w K mg base CX0 7 "_law_same" p__law_same (spSame K 7) := ⟨⟨_, fd__law_same, He.glo_ok X G (c.fact 38 (f := .glo "_law_same") rfl), Fd__law_same.kp, Fd__law_same.bindsN (ps := p__law_same) (fun _ _ _ _ _ _ us hl => match us, hl with | [_, _], _ => rfl), ok_same Fd__law_same T S6⟩⟩
  have S8 : Def P w K mg base CX0 8 "_law_same" p__law_same (spSame K 8) := ⟨⟨_, fd__law_same, He.glo_ok X G (c.fact 38 (f := .glo "_law_same") rfl), Fd__law_same.kp, Fd__law_same.bindsN (ps := p__law_same) (fun _ _ _ _ _ _ us hl => match us, hl with | [_, _], _ => rfl), ok_same Fd__law_same T S7⟩⟩
  have S9 : Def P w K mg base CX0 9 "_law_same" p__law_same (spSame K 9) := ⟨⟨_, fd__law_same, He.glo_ok X G (c.fact 38 (f := .glo "_law_same") rfl), Fd__law_same.kp, Fd__law_same.bindsN (ps := p__law_same) (fun _ _ _ _ _ _ us hl => match us, hl with | [_, _], _ => rfl), ok_same Fd__law_same T S8⟩⟩
  have S10 : Def P w K mg base CX0 10 "_law_same" p__law_same (spSame K 10) := ⟨⟨_, fd__law_same, He.glo_ok X G (c.fact 38 (f := .glo "_law_same") rfl), Fd__law_same.kp, Fd__law_same.bindsN (ps := p__law_same) (fun _ _ _ _ _ _ us hl => match us, hl with | [_, _], _ => rfl), ok_same Fd__law_same T S9⟩⟩
  have S11 : Def P w K mg base CX0 11 "_law_same" p__law_same (spSame K 11) := ⟨⟨_, fd__law_same, He.glo_ok X G (c.fact 38 (f := .glo "_law_same") rfl), Fd__law_same.kp, Fd__law_same.bindsN (ps := p__law_same) (fun _ _ _ _ _ _ us hl => match us, hl with | [_, _], _ => rfl), ok_same Fd__law_same T S10⟩⟩
  have S12 : Def P w K mg base CX0 12 "_law_same" p__law_same (spSame K 12) := ⟨⟨_, fd__law_same, He.glo_ok X G (c.fact 38 (f := .glo "_law_same") rfl), Fd__law_same.kp, Fd__law_same.bindsN (ps := p__law_same) (fun _ _ _ _ _ _ us hl => match us, hl with | [_, _], _ => rfl), ok_same Fd__law_same T S11⟩⟩
  have S13 : Def P w K mg base CX0 13 "_law_same" p__law_same (spSame K 13) := ⟨⟨_, fd__law_same, He.glo_ok X G (c.fact 38 (f := .glo "_law_same") rfl), Fd__law_same.kp, Fd__law_same.bindsN (ps := p__law_same) (fun _ _ _ _ _ _ us hl => match us, hl with | [_, _], _ => rfl), ok_same Fd__law_same T S12⟩⟩
  have S14 : Def P w K mg base CX0 14 "_law_same" p__law_same (spSame K 14) := ⟨⟨_, fd__law_same, He.glo_ok X G (c.fact 38 (f := .glo "_law_same") rfl), Fd__law_same.kp, Fd__law_same.bindsN (ps := p__law_same) (fun _ _ _ _ _ _ us hl => match us, hl with | [_, _], _ => rfl), ok_same Fd__law_same T S13⟩⟩
  have S15 : Def P w K mg base CX0 15 "_law_same" p__law_same (spSame K 15) := ⟨⟨_, fd__law_same, He.glo_ok X G (c.fact 38 (f := .glo "_law_same") rfl), Fd__law_same.kp, Fd__law_same.bindsN (ps := p__law_same) (fun _ _ _ _ _ _ us hl => match us, hl with | [_, _], _ => rfl), ok_same Fd__law_same T S14⟩⟩
  have S16 : Def P w K mg base CX0 16 "_law_same" p__law_same (spSame K 16) := ⟨⟨_, fd__law_same, He.glo_ok X G (c.fact 38 (f := .glo "_law_same") rfl), Fd__law_same.kp, Fd__law_same.bindsN (ps := p__law_same) (fun _ _ _ _ _ _ us hl => match us, hl with | [_, _], _ => rfl), ok_same Fd__law_same T S15⟩⟩
  have LL0 : Def P w K mg base CX0 1 "_law_lists" p__law_lists (spLLists K 0) := ⟨⟨_, fd__law_lists, He.glo_ok X G (c.fact 39 (f := .glo "_law_lists") rfl), Fd__law_lists.kp, Fd__law_lists.bindsN (ps := p__law_lists) (fun _ _ _ _ _ _ us hl => match us, hl with | [_], _ => rfl), ok_llists Fd__law_lists T⟩⟩
  have LL1 : Def P w K mg base CX0 1 "_law_lists" p__law_lists (spLLists K 1) := ⟨⟨_, fd__law_lists, He.glo_ok X G (c.fact 39 (f := .glo "_law_lists") rfl), Fd__law_lists.kp, Fd__law_lists.bindsN (ps := p__law_lists) (fun _ _ _ _ _ _ us hl => match us, hl with | [_], _ => rfl), ok_llists Fd__law_lists T⟩⟩
  have LL2 : Def P w K mg base CX0 1 "_law_lists" p__law_lists (spLLists K 2) := ⟨⟨_, fd__law_lists, He.glo_ok X G (c.fact 39 (f := .glo "_law_lists") rfl), Fd__law_lists.kp, Fd__law_lists.bindsN (ps := p__law_lists) (fun _ _ _ _ _ _ us hl => match us, hl with | [_], _ => rfl), ok_llists Fd__law_lists T⟩⟩
  have LL3 : Def P w K mg base CX0 1 "_law_lists" p__law_lists (spLLists K 3) := ⟨⟨_, fd__law_lists, He.glo_ok X G (c.fact 39 (f := .glo "_law_lists") rfl), Fd__law_lists.kp, Fd__law_lists.bindsN (ps := p__law_lists) (fun _ _ _ _ _ _ us hl => match us, hl with | [_], _ => rfl), ok_llists Fd__law_lists T⟩⟩
  have LL4 : Def P w K mg base CX0 1 "_law_lists" p__law_lists (spLLists K 4) := ⟨⟨_, fd__law_lists, He.glo_ok X G (c.fact 39 (f := .glo "_law_lists") rfl), Fd__law_lists.kp, Fd__law_lists.bindsN (ps := p__law_lists) (fun _ _ _ _ _ _ us hl => match us, hl with | [_], _ => rfl), ok_llists Fd__law_lists T⟩⟩
  have LLA : Def P w K mg base CX0 1 "_law_lists" p__law_lists (spLListsA K) := ⟨⟨_, fd__law_lists, He.glo_ok X G (c.fact 39 (f := .glo "_law_lists") rfl), Fd__law_lists.kp, Fd__law_lists.bindsN (ps := p__law_lists) (fun _ _ _ _ _ _ us hl => match us, hl with | [_], _ => rfl), fnok_any fun d => ok_llists (d := d) Fd__law_lists T⟩⟩
  have PA0 : Def P w K mg base CX0 1 "_law_paths" p__law_paths (spLPaths K 0) := ⟨⟨_, fd__law_paths, He.glo_ok X G (c.fact 40 (f := .glo "_law_paths") rfl), Fd__law_paths.kp, Fd__law_paths.bindsN (ps := p__law_paths) (fun _ _ _ _ _ _ us hl => match us, hl with | [_, _], _ => rfl), ⟨fun _ _ _ _ h => h.elim, fun _ _ _ _ _ _ _ _ _ _ _ _ _ h => h.elim⟩⟩⟩
  have PA1 : Def P w K mg base CX0 2 "_law_paths" p__law_paths (spLPaths K 1) := ⟨⟨_, fd__law_paths, He.glo_ok X G (c.fact 40 (f := .glo "_law_paths") rfl), Fd__law_paths.kp, Fd__law_paths.bindsN (ps := p__law_paths) (fun _ _ _ _ _ _ us hl => match us, hl with | [_, _], _ => rfl), ok_lpaths Fd__law_paths T (by decide) LL0 PA0⟩⟩
  have PA2 : Def P w K mg base CX0 3 "_law_paths" p__law_paths (spLPaths K 2) := ⟨⟨_, fd__law_paths, He.glo_ok X G (c.fact 40 (f := .glo "_law_paths") rfl), Fd__law_paths.kp, Fd__law_paths.bindsN (ps := p__law_paths) (fun _ _ _ _ _ _ us hl => match us, hl with | [_, _], _ => rfl), ok_lpaths Fd__law_paths T (by decide) LL1 PA1⟩⟩
  have PA3 : Def P w K mg base CX0 4 "_law_paths" p__law_paths (spLPaths K 3) := ⟨⟨_, fd__law_paths, He.glo_ok X G (c.fact 40 (f := .glo "_law_paths") rfl), Fd__law_paths.kp, Fd__law_paths.bindsN (ps := p__law_paths) (fun _ _ _ _ _ _ us hl => match us, hl with | [_, _], _ => rfl), ok_lpaths Fd__law_paths T (by decide) LL2 PA2⟩⟩
  have PA4 : Def P w K mg base CX0 5 "_law_paths" p__law_paths (spLPaths K 4) := ⟨⟨_, fd__law_paths, He.glo_ok X G (c.fact 40 (f := .glo "_law_paths") rfl), Fd__law_paths.kp, Fd__law_paths.bindsN (ps := p__law_paths) (fun _ _ _ _ _ _ us hl => match us, hl with | [_, _], _ => rfl), ok_lpaths Fd__law_paths T (by decide) LL3 PA3⟩⟩
  have PA5 : Def P w K mg base CX0 6 "_law_paths" p__law_paths (spLPaths K 5) := ⟨⟨_, fd__law_paths, He.glo_ok X G (c.fact 40 (f := .glo "_law_paths") rfl), Fd__law_paths.kp, Fd__law_paths.bindsN (ps := p__law_paths) (fun _ _ _ _ _ _ us hl => match us, hl with | [_, _], _ => rfl), ok_lpaths Fd__law_paths T (by decide) LL4 PA4⟩⟩
  have AT0 : Def P w K mg base CX0 1 "_law_at" p__law_at (spLAt K 0) := ⟨⟨_, fd__law_at, He.glo_ok X G (c.fact 41 (f := .glo "_law_at") rfl), Fd__law_at.kp, Fd__law_at.bindsN (ps := p__law_at) (fun _ _ _ _ _ _ us hl => match us, hl with | [_, _], _ => rfl), ⟨fun _ _ _ _ h => h.elim, fun _ _ _ _ _ _ _ _ _ _ _ _ _ h => h.elim⟩⟩⟩
  have AT1 : Def P w K mg base CX0 2 "_law_at" p__law_at (spLAt K 1) := ⟨⟨_, fd__law_at, He.glo_ok X G (c.fact 41 (f := .glo "_law_at") rfl), Fd__law_at.kp, Fd__law_at.bindsN (ps := p__law_at) (fun _ _ _ _ _ _ us hl => match us, hl with | [_, _], _ => rfl), ok_lat Fd__law_at T (by decide) LL0 AT0⟩⟩
  have AT2 : Def P w K mg base CX0 3 "_law_at" p__law_at (spLAt K 2) := ⟨⟨_, fd__law_at, He.glo_ok X G (c.fact 41 (f := .glo "_law_at") rfl), Fd__law_at.kp, Fd__law_at.bindsN (ps := p__law_at) (fun _ _ _ _ _ _ us hl => match us, hl with | [_, _], _ => rfl), ok_lat Fd__law_at T (by decide) LL1 AT1⟩⟩
  have AT3 : Def P w K mg base CX0 4 "_law_at" p__law_at (spLAt K 3) := ⟨⟨_, fd__law_at, He.glo_ok X G (c.fact 41 (f := .glo "_law_at") rfl), Fd__law_at.kp, Fd__law_at.bindsN (ps := p__law_at) (fun _ _ _ _ _ _ us hl => match us, hl with | [_, _], _ => rfl), ok_lat Fd__law_at T (by decide) LL2 AT2⟩⟩
  have AT4 : Def P w K mg base CX0 5 "_law_at" p__law_at (spLAt K 4) := ⟨⟨_, fd__law_at, He.glo_ok X G (c.fact 41 (f := .glo "_law_at") rfl), Fd__law_at.kp, Fd__law_at.bindsN (ps := p__law_at) (fun _ _ _ _ _ _ us hl => match us, hl with | [_, _], _ => rfl), ok_lat Fd__law_at T (by decide) LL3 AT3⟩⟩
  have AT5 : Def P w K mg base CX0 6 "_law_at" p__law_at (spLAt K 5) := ⟨⟨_, fd__law_at, He.glo_ok X G (c.fact 41 (f := .glo "_law_at") rfl), Fd__law_at.kp, Fd__law_at.bindsN (ps := p__law_at) (fun _ _ _ _ _ _ us hl => match us, hl with | [_, _], _ => rfl), ok_lat Fd__law_at T (by decide) LL4 AT4⟩⟩
  have G__law_wrong : Def P w K mg base CX0 1 "_law_wrong" p__law_wrong (spWrong K) := ⟨⟨_, fd__law_wrong, He.glo_ok X G (c.fact 43 (f := .glo "_law_wrong") rfl), Fd__law_wrong.kp, Fd__law_wrong.bindsN (ps := p__law_wrong) (fun _ _ _ _ _ _ us hl => match us, hl with | [_], _ => rfl), ok_lwrong Fd__law_wrong T⟩⟩
  have WS : DefW P w K mg base CX0 1 "_law_same" p__law_same spSameS := ⟨⟨_, fd__law_same, He.glo_ok X G (c.fact 38 (f := .glo "_law_same") rfl), Fd__law_same.kp, Fd__law_same.bindsN (ps := p__law_same) (fun _ _ _ _ _ _ us hl => match us, hl with | [_, _], _ => rfl), ok_sameW Fd__law_same T⟩⟩
  have xc : ∀ {C : Addr}, XfC K C → XcF K C → ExcC K C := fun x y => ⟨x.ga, x.gg, x.exC, x.hdC, y.ha, y.hn, y.ht, y.hm⟩
  have EK : ErrK K mg := { xf := e.xfA, xc := xc e.xfA e.xcA, g := He.glo_ok X G (c.fact 1 (f := .glo "InvalidArgument") rfl), gP := He.glo_ok X G (c.fact 0 (f := .glo "InvalidProgram") rfl), gR := He.glo_ok X G (c.fact 2 (f := .glo "RunError") rfl), gI := He.glo_ok X G (c.fact 3 (f := .glo "InputError") rfl), gO := He.glo_ok X G (c.fact 4 (f := .glo "OpenError") rfl), n := He.noat_ok (c.fact 62 (f := .noat "InvalidArgument" "part") rfl), e := e.eAA, kP := e.kAP, kR := e.kAR, kI := e.kAI, kO := e.kAO }
  have G__law_refused : Def P w K mg base CX0 9 "_law_refused" p__law_refused (spLRef K) := ⟨⟨_, fd__law_refused, He.glo_ok X G (c.fact 42 (f := .glo "_law_refused") rfl), Fd__law_refused.kp, Fd__law_refused.bindsN (ps := p__law_refused) (fun _ _ _ _ _ _ us hl => match us, hl with | [_, _], _ => rfl), ok_lrefused (k0 := 8) (kr := 8) Fd__law_refused T EK (by decide) (by decide) M_row_at WS⟩⟩
  exact ok_law (k0 := 33) Fd_law T (by decide) (by decide) (by decide) (by decide) (by decide) (by decide) (by decide) (by decide) (by decide) G__law_bag G__law_draw G__law_plan G__law_program PA5 S16 AT5 LLA G__law_wrong G__law_refused M_paths M_rows M_row_at
end
end OR
open PySem PySem.W PySem.Calls PyProof.Rows
theorem PySem.Challenge.cw_openruns_k02_paths_of_rows_holds : PySem.Challenge.rw_openruns_k02_paths_of_rows.Holds := by
  w_on; o_law
  refine HandSHeadRun.head_any (r := OR.Row0) (q := view OR.Row0.prog [73]) (H := OR.hk) (ob := OR.ob) (M := 12000) (loose := OR.loose) (d := HandSHeadRun.topDef OR.Row0.prog 73) (kwd := []) OR.ob_eq
    (by kernel_rfl) (fun s => by kernel_rfl) OR.run (by kernel_rfl) (by kernel_rfl) (by kernel_rfl) (by rfl) (by first | assumption | decide +kernel) (by decide +kernel) ⟨rfl, rfl, rfl, rfl, rfl, by decide +kernel⟩ ?hw ?hc
  case hw => w_witness2
  case hc =>
    refine L2.walk_ofE (l := PySem.Challenge.rw_openruns_k02_paths_of_rows) (n := 63) (k := 34) (x := "_law_script") (CX := L2.CX0) rfl (by decide) (by kernel_rfl) ⟨rfl, by decide, by decide⟩ ?F (fun _ _ _ _ z => z)
    intro w mg fa h Y G hmg0
    obtain ⟨K, KX, c⟩ := Y
    have hmg : mg ("law" : PySem.Str) = some (.ref fa) := by
      have e : (HandSHeadRun.topDef OR.Row0.prog 73).name = ("law" : PySem.Str) := by kernel_rfl
      rw [← e]
      exact hmg0
    obtain ⟨fd, hb, hF⟩ := OR.facts (P := (PySem.Challenge.rw_openruns_k02_paths_of_rows).prog) (w := w) KX G hmg c.more c.t
    exact ⟨K, fd, OR.spLaw K, KX, hb, fun H a ns hl _ hS => ⟨a, ns, rfl, hS, hl, fun _ => rfl⟩, hF⟩
#print axioms PySem.Challenge.cw_openruns_k02_paths_of_rows_holds
